package bake_test

import (
	"errors"
	"math"
	"math/big"
	"regexp"
	"slices"
	"strconv"
	"strings"
	"testing"
	"unsafe"

	"sojourn/api"
	"sojourn/bake"
	"sojourn/fail"
)

// dice are numbers below n that look like any others, by a rule.
func dice(seed uint32) func(n int) int {
	return func(n int) int {
		seed = seed*1664525 + 1013904223
		return int(seed>>8) % n
	}
}

// maxNum is 2^40, the greatest MaxAge.
const maxNum = 1099511627776

// The model: cookies and headers in the chapter's own words, by the library.

var (
	tokens = regexp.MustCompile("\\A[!#$%&'*+\\-.^_`|~0-9A-Za-z]+\\z")
	octets = regexp.MustCompile(`\A[\x21\x23-\x2B\x2D-\x3A\x3C-\x5B\x5D-\x7E]*\z`)
	// A path is nothing, or a slash, or one with bytes behind it: one that is no blank, or any between two of those.
	paths = regexp.MustCompile(`\A(?:/(?:[!-:<-~](?:[ -:<-~]*[!-:<-~])?)?)?\z`)
	// A part is a name and a value, or a name alone, with blanks and tabs around each.
	parts    = regexp.MustCompile(`(?s)\A[ \t]*([^=]*?)[ \t]*(?:(=)[ \t]*(.*?)[ \t]*)?\z`)
	integers = regexp.MustCompile(`\A-?[0-9]+\z`)
	sites    = []string{"", "Strict", "Lax", "None"}
)

// isRight tells whether a cookie is right.
func isRight(c bake.Cookie) bool {
	return tokens.MatchString(c.Name) && octets.MatchString(c.Value) && paths.MatchString(c.Path) &&
		c.MaxAge >= -1 && c.MaxAge <= maxNum && slices.Contains([]int{0, 1, 2, 3}, c.Site) &&
		!(c.Site == 3 && !c.Secure)
}

// headerOf is the header of a cookie that is right.
func headerOf(c bake.Cookie) string {
	s := c.Name + "=" + c.Value
	if c.Path > "" {
		s += "; Path=" + c.Path
	}
	if c.MaxAge >= 0 {
		s += "; Max-Age=" + strconv.FormatInt(int64(c.MaxAge), 10)
	}
	if c.Secure {
		s += "; Secure"
	}
	if c.HTTPOnly {
		s += "; HttpOnly"
	}
	if c.Site > 0 {
		s += "; SameSite=" + sites[c.Site]
	}
	return s
}

// lowered is a text with the 26 capital letters as small ones.
func lowered(s string) string {
	const capital, smallOnes = "ABCDEFGHIJKLMNOPQRSTUVWXYZ", "abcdefghijklmnopqrstuvwxyz"
	var l []string
	for i := range len(capital) {
		l = append(l, capital[i:i+1], smallOnes[i:i+1])
	}
	return strings.NewReplacer(l...).Replace(s)
}

// clamped is a decimal number of any length, within 0 and 2^40.
func clamped(s string) int {
	n, _ := new(big.Int).SetString(s, 10)
	switch {
	case n.Sign() < 0:
		return 0
	case n.Cmp(big.NewInt(maxNum)) > 0:
		return maxNum
	}
	return int(n.Int64())
}

// model is the cookie that a client takes; false, if it takes nothing. Of each name it keeps all values that count, and then looks at the last one.
func model(s string) (bake.Cookie, bool) {
	l := strings.Split(s, ";")
	first := parts.FindStringSubmatch(l[0])
	if first[1] == "" || first[2] == "" {
		return bake.Cookie{}, false
	}
	values := map[string][]string{}
	for _, a := range l[1:] {
		m := parts.FindStringSubmatch(a)
		name := lowered(m[1])
		if name != "max-age" || integers.MatchString(m[3]) {
			values[name] = append(values[name], m[3])
		}
	}
	last := func(name string) (string, bool) {
		l := values[name]
		if len(l) == 0 {
			return "", false
		}
		return l[len(l)-1], true
	}
	c := bake.Cookie{Name: first[1], Value: first[3], MaxAge: -1}
	if v, _ := last("path"); strings.HasPrefix(v, "/") {
		c.Path = v
	}
	if v, ok := last("max-age"); ok {
		c.MaxAge = clamped(v)
	}
	_, c.Secure = last("secure")
	_, c.HTTPOnly = last("httponly")
	v, _ := last("samesite")
	c.Site = max(0, slices.Index([]string{"", "strict", "lax", "none"}, lowered(v)))
	return c, true
}

// wantFault tells in the test if err isn't one of this layer alone that wraps c, with the place "bake" and 0.
func wantFault(t *testing.T, what string, err error, c api.Code) {
	t.Helper()
	where, at, ok := fail.Place(err)
	if !ok || !errors.Is(err, c) || fail.Number(err) != int(c) || where != "bake" || at != 0 {
		t.Fatalf("%.200s: the error is %v (number %d), with the place %q %d, not one of number %d with the place \"bake\" 0", what, err, fail.Number(err), where, at, c)
	}
	if l := fail.Trail(err); !slices.Equal(l, []string{"bake"}) {
		t.Fatalf("%.200s: the trail is %q", what, l)
	}
}

// wantWritten tells in the test if the header of c isn't s.
func wantWritten(t *testing.T, s string, c bake.Cookie) {
	t.Helper()
	if got, err := bake.Write(c); err != nil || got != s {
		t.Fatalf("Write of %.400q is %.200q, %v, not %.200q", fields(c), got, err, s)
	}
}

// wantNotWritten tells in the test if c isn't refused.
func wantNotWritten(t *testing.T, c bake.Cookie) {
	t.Helper()
	got, err := bake.Write(c)
	if got != "" {
		t.Fatalf("Write of %.400q, which isn't right, is %.200q", fields(c), got)
	}
	wantFault(t, "Write of "+fields(c), err, api.ErrArg)
}

// fields are what stands in a cookie, as a test tells it.
func fields(c bake.Cookie) string {
	return strings.Join([]string{c.Name, c.Value, c.Path, strconv.Itoa(c.MaxAge), strconv.FormatBool(c.Secure), strconv.FormatBool(c.HTTPOnly), strconv.Itoa(c.Site)}, "|")
}

// wantTaken tells in the test if what a client takes of s isn't c.
func wantTaken(t *testing.T, s string, c bake.Cookie) {
	t.Helper()
	if got, err := bake.Parse(s); err != nil || got != c {
		t.Fatalf("Parse of %.200q is %.400q, %v, not %.400q", s, fields(got), err, fields(c))
	}
}

// wantNothing tells in the test if anything is taken of s.
func wantNothing(t *testing.T, s string) {
	t.Helper()
	got, err := bake.Parse(s)
	if got != (bake.Cookie{}) {
		t.Fatalf("Parse of %.200q, of which nothing is taken, is %.400q", s, fields(got))
	}
	wantFault(t, "Parse of "+s, err, api.ErrForm)
}

// wantAsModel tells in the test if Parse of s isn't what the model says.
func wantAsModel(t *testing.T, s string) {
	t.Helper()
	if c, ok := model(s); ok {
		wantTaken(t, s, c)
	} else {
		wantNothing(t, s)
	}
}

// wantRightly tells in the test if c isn't written, and taken as it was, or, if it isn't right, refused.
func wantRightly(t *testing.T, c bake.Cookie) {
	t.Helper()
	if !isRight(c) {
		wantNotWritten(t, c)
		return
	}
	wantWritten(t, headerOf(c), c)
	wantTaken(t, headerOf(c), c)
}

// P14.1: Write.

func TestWriteOfTheExample(t *testing.T) {
	wantWritten(t, "a=1; Path=/; Max-Age=60; Secure", bake.Cookie{Name: "a", Value: "1", Path: "/", MaxAge: 60, Secure: true})
}

func TestTheSitesHaveTheirNumbers(t *testing.T) {
	if bake.SiteStrict != 1 || bake.SiteLax != 2 || bake.SiteNone != 3 {
		t.Errorf("the sites are %d, %d, %d", bake.SiteStrict, bake.SiteLax, bake.SiteNone)
	}
}

func TestWrite(t *testing.T) {
	for _, x := range []struct {
		s string
		c bake.Cookie
	}{
		{"a=", bake.Cookie{Name: "a", MaxAge: -1}},
		{"a=; Max-Age=0", bake.Cookie{Name: "a"}},
		{"a==", bake.Cookie{Name: "a", Value: "=", MaxAge: -1}},
		{"a=1; Path=/", bake.Cookie{Name: "a", Value: "1", Path: "/", MaxAge: -1}},
		{"a=1; Path=//", bake.Cookie{Name: "a", Value: "1", Path: "//", MaxAge: -1}},
		{"a=1; Path=/x y,\"\\=/z", bake.Cookie{Name: "a", Value: "1", Path: "/x y,\"\\=/z", MaxAge: -1}},
		{"a=1; Max-Age=1", bake.Cookie{Name: "a", Value: "1", MaxAge: 1}},
		{"a=1; Max-Age=1099511627776", bake.Cookie{Name: "a", Value: "1", MaxAge: maxNum}},
		{"a=1; Secure", bake.Cookie{Name: "a", Value: "1", MaxAge: -1, Secure: true}},
		{"a=1; HttpOnly", bake.Cookie{Name: "a", Value: "1", MaxAge: -1, HTTPOnly: true}},
		{"a=1; SameSite=Strict", bake.Cookie{Name: "a", Value: "1", MaxAge: -1, Site: bake.SiteStrict}},
		{"a=1; SameSite=Lax", bake.Cookie{Name: "a", Value: "1", MaxAge: -1, Site: bake.SiteLax}},
		{"a=1; Secure; SameSite=None", bake.Cookie{Name: "a", Value: "1", MaxAge: -1, Secure: true, Site: bake.SiteNone}},
		{"sid=AzE.u-_; Path=/a/b; Max-Age=9; Secure; HttpOnly; SameSite=None", bake.Cookie{Name: "sid", Value: "AzE.u-_", Path: "/a/b", MaxAge: 9, Secure: true, HTTPOnly: true, Site: bake.SiteNone}},
	} {
		wantWritten(t, x.s, x.c)
	}
}

// Each case is refused for one thing.
func TestWriteRefuses(t *testing.T) {
	whole := bake.Cookie{Name: "a", Value: "1", Path: "/p", MaxAge: 5, Secure: true, HTTPOnly: true, Site: bake.SiteNone}
	refused := func(change func(c *bake.Cookie)) {
		t.Helper()
		c := whole
		change(&c)
		wantNotWritten(t, c)
	}
	for _, s := range []string{"", " ", "=", "a=", "a b", " a", "a ", "a;", "a,", "a/", "(a)", "a\x00", "\x7f", "é", "\xff", "a\r\n"} {
		refused(func(c *bake.Cookie) { c.Name = s })
	}
	for _, s := range []string{" ", " 1", "1 ", "1 2", "1;", "1; Path=/x", ",", "\"", "\"1\"", "\\", "\t", "\x00", "\x7f", "é", "\xff", "1\r\nb: 2"} {
		refused(func(c *bake.Cookie) { c.Value = s })
	}
	for _, s := range []string{" ", "a", "a/", " /", "\t/", "\\", "/ ", "/  ", "/ a", "/a ", "/ /", "/;", "/a;b", "/a; Secure", "/\t", "/a\tb", "/a\x1f", "/a\x7f", "/\x00", "/é", "/a\x80", "/\xff", "/a\n"} {
		refused(func(c *bake.Cookie) { c.Path = s })
	}
	for _, n := range []int{-2, -3, -1000, math.MinInt32, math.MinInt, maxNum + 1, maxNum + 2, 1 << 41, math.MaxInt} {
		refused(func(c *bake.Cookie) { c.MaxAge = n })
	}
	for _, n := range []int{-1, -2, 4, 5, 256, 257, 1<<32 + 1, math.MinInt, math.MaxInt} {
		refused(func(c *bake.Cookie) { c.Site = n })
	}
	refused(func(c *bake.Cookie) { c.Secure = false })
	wantNotWritten(t, bake.Cookie{})
	wantNotWritten(t, bake.Cookie{Name: "a", MaxAge: -1, Site: bake.SiteNone})
	wantNotWritten(t, bake.Cookie{Name: "a", MaxAge: -2, Site: 4, Path: "a"})
}

// Each byte stands at each place of names, values and paths.
func TestWriteOfEachByte(t *testing.T) {
	for c := range 256 {
		s := string([]byte{byte(c)})
		for _, w := range []string{s, "a" + s, s + "a", "a" + s + "b", "/" + s, "/" + s + "a", "/a" + s, "/a" + s + "b", s + "/", "/" + s + s} {
			wantRightly(t, bake.Cookie{Name: w, Value: "1", MaxAge: -1})
			wantRightly(t, bake.Cookie{Name: "a", Value: w, MaxAge: -1})
			wantRightly(t, bake.Cookie{Name: "a", Path: w, MaxAge: 7})
		}
	}
}

// P14.1, P14.2: all choices of what is said, in their order.
func TestWriteOfAllChoices(t *testing.T) {
	written := 0
	for _, path := range []string{"", "/", "/a b", "a", "/ "} {
		for _, age := range []int{math.MinInt, -2, -1, 0, 1, 60, maxNum - 1, maxNum, maxNum + 1, math.MaxInt} {
			for site := -1; site <= 4; site++ {
				for flags := range 4 {
					c := bake.Cookie{Name: "a", Value: "1", Path: path, MaxAge: age, Secure: flags&1 > 0, HTTPOnly: flags&2 > 0, Site: site}
					wantRightly(t, c)
					if isRight(c) {
						written++
					}
				}
			}
		}
	}
	if written != 3*6*(3*4+2) {
		t.Errorf("the test is too weak: %d were written", written)
	}
}

// P14.1: Parse.

func TestParseOfTheExample(t *testing.T) {
	wantTaken(t, "a = 1 ;max-AGE=-5", bake.Cookie{Name: "a", Value: "1"})
}

func TestParseOfNameAndValue(t *testing.T) {
	for _, x := range []struct{ s, name, value string }{
		{"a=1", "a", "1"}, {"a=", "a", ""}, {"a==", "a", "="}, {"a=b=c", "a", "b=c"}, {"a= =b", "a", "=b"},
		{" a=1", "a", "1"}, {"\t a \t=\t 1 \t", "a", "1"}, {"a b = 1 2 ", "a b", "1 2"}, {"a\t b= 1\t 2", "a\t b", "1\t 2"},
		{"a=1;", "a", "1"}, {"a=;", "a", ""}, {"a= ;", "a", ""}, {"a=1;;; ;\t;", "a", "1"}, {"A=1", "A", "1"}, {"a=X", "a", "X"},
		{`a="1"`, "a", `"1"`}, {"a=1,2", "a", "1,2"}, {`a=\`, "a", `\`}, {"(a)=1", "(a)", "1"}, {"a,b=1", "a,b", "1"},
		{"a=\r\n", "a", "\r\n"}, {"\v=\f", "\v", "\f"}, {"\n=1", "\n", "1"}, {"\x00=\x00", "\x00", "\x00"}, {"\xff=\xfe", "\xff", "\xfe"}, {"\u00a0=\u2003", "\u00a0", "\u2003"}, {"é=ä", "é", "ä"},
		{"path=/x", "path", "/x"}, {"Secure=1", "Secure", "1"}, {"max-age=5", "max-age", "5"},
	} {
		wantTaken(t, x.s, bake.Cookie{Name: x.name, Value: x.value, MaxAge: -1})
	}
}

func TestParseTakesNothing(t *testing.T) {
	for _, s := range []string{"", " ", "\t", ";", "; ", "=", "==", "=1", " =1", "\t =1", " = ", "a", " a ", "a b", "a;", "a; b=1", ";a=1", "; a=1", " ;a=1", "=;a=1", "=1; Path=/", "a;=1", "a; Secure; Max-Age=1", "; Secure", "Secure", "\x00", "\xff", "é"} {
		wantNothing(t, s)
	}
}

// takes tells in the test if what attributes say isn't what c says, beside the name and the value.
func takes(t *testing.T, attributes string, c bake.Cookie) {
	t.Helper()
	c.Name, c.Value = "a", "1"
	wantTaken(t, "a=1;"+attributes, c)
}

func TestParseOfPaths(t *testing.T) {
	for _, x := range []struct{ s, path string }{
		{"Path=/", "/"}, {"path=/a/b", "/a/b"}, {" PATH \t=\t /a ", "/a"}, {"Path=/a b", "/a b"}, {"Path=/ a", "/ a"}, {"Path=/A", "/A"}, {"Path=/a=b=", "/a=b="}, {"Path=/=", "/="}, {"Path=//", "//"}, {"Path=/\x00\xff\r\n", "/\x00\xff\r\n"}, {"Path=/\"a\",\\", "/\"a\",\\"}, {"Path=/é", "/é"},
		{"Path", ""}, {"Path=", ""}, {"Path= ", ""}, {"Path=a", ""}, {"Path=a/", ""}, {"Path=\"/\"", ""}, {"Path=\\", ""}, {"Path==/", ""}, {"Path=\v/", ""}, {"Path=\n/", ""}, {"Path=\u00a0/", ""},
		{"Path:/", ""}, {"Paths=/", ""}, {"Pat=/", ""}, {"xPath=/", ""}, {"Path =/", "/"}, {"Path\v=/", ""}, {"P ath=/", ""}, {"=/", ""}, {"=Path=/", ""}, {"/", ""},
	} {
		takes(t, x.s, bake.Cookie{Path: x.path, MaxAge: -1})
	}
}

func TestParseOfAges(t *testing.T) {
	nines := strings.Repeat("9", 1000)
	for _, x := range []struct {
		value string
		age   int
	}{
		{"0", 0}, {"1", 1}, {"60", 60}, {"007", 7}, {"00", 0}, {" \t12 \t", 12}, {strings.Repeat("0", 1000) + "5", 5},
		{"1099511627775", maxNum - 1}, {"1099511627776", maxNum}, {"1099511627777", maxNum}, {"1099511627780", maxNum}, {"9999999999999", maxNum},
		{"9223372036854775807", maxNum}, {"9223372036854775808", maxNum}, {"18446744073709551615", maxNum}, {"18446744073709551616", maxNum}, {"18446744073709551621", maxNum}, {nines, maxNum}, {"1" + strings.Repeat("0", 999), maxNum},
		{"-0", 0}, {"-1", 0}, {"-5", 0}, {"-007", 0}, {"-1099511627777", 0}, {"-9223372036854775808", 0}, {"-9223372036854775809", 0}, {"-18446744073709551617", 0}, {"-" + nines, 0},
		{"", -1}, {"-", -1}, {"--", -1}, {"--1", -1}, {"- 1", -1}, {"1-", -1}, {"1-2", -1}, {"+1", -1}, {"+", -1}, {"1.0", -1}, {"1,0", -1}, {"1e3", -1}, {"0x10", -1}, {"1_0", -1}, {"1 2", -1}, {"x", -1}, {"1x", -1}, {"x1", -1}, {"-x", -1}, {"-1x", -1}, {"\"1\"", -1}, {"=1", -1}, {"1=", -1}, {"1\n", -1}, {"\v1", -1}, {"1\x00", -1}, {nines + "x", -1}, {"-" + nines + "x", -1},
		{"\u0661", -1}, {"\uff11", -1}, {"\u22121", -1}, {"/", -1}, {":", -1},
	} {
		for _, name := range []string{"Max-Age", "max-age", "MAX-AGE", " mAX-aGE\t"} {
			takes(t, name+"="+x.value, bake.Cookie{MaxAge: x.age})
		}
		for _, name := range []string{"MaxAge", "Max_Age", "Max-Ages", "Age", "Max- Age", ""} {
			takes(t, name+"="+x.value, bake.Cookie{MaxAge: -1})
		}
	}
	takes(t, "Max-Age", bake.Cookie{MaxAge: -1})
	takes(t, "Max-Age-5", bake.Cookie{MaxAge: -1})
}

func TestParseOfFlags(t *testing.T) {
	for _, value := range []string{"", "=", "=1", "=0", "=false", "= ", "==", "=Secure", "=\x00"} {
		for _, name := range []string{"Secure", "secure", "SECURE", "\tsEcUrE "} {
			takes(t, name+value, bake.Cookie{MaxAge: -1, Secure: true})
		}
		for _, name := range []string{"HttpOnly", "httponly", "HTTPONLY", " hTTPoNLY\t"} {
			takes(t, name+value, bake.Cookie{MaxAge: -1, HTTPOnly: true})
		}
		for _, name := range []string{"Secur", "Secures", "Sec ure", "Http-Only", "HttpOnl", "HttpOnlyx", "\"Secure\"", "Secure,HttpOnly", "Secure HttpOnly", "Secure\v", "\nSecure", "Secure\x00"} {
			takes(t, name+value, bake.Cookie{MaxAge: -1})
		}
	}
}

func TestParseOfSites(t *testing.T) {
	for _, x := range []struct {
		value string
		site  int
	}{
		{"Strict", 1}, {"strict", 1}, {"STRICT", 1}, {" \tsTrIcT\t ", 1}, {"Lax", 2}, {"lax", 2}, {"LAX", 2}, {"None", 3}, {"none", 3}, {"NONE", 3},
		{"", 0}, {"Stric", 0}, {"Stricts", 0}, {"Laxx", 0}, {"La", 0}, {"Non", 0}, {"No", 0}, {"\"Lax\"", 0}, {"1", 0}, {"2", 0}, {"3", 0}, {"=Lax", 0}, {"Lax=", 0}, {"Lax Strict", 0}, {"Default", 0}, {"Lax\v", 0}, {"La x", 0}, {"Lax\x00", 0},
	} {
		for _, name := range []string{"SameSite", "samesite", "SAMESITE", " sAMEsITE\t"} {
			takes(t, name+"="+x.value, bake.Cookie{MaxAge: -1, Site: x.site})
		}
		for _, name := range []string{"Same-Site", "SameSites", "Site", "Same Site", ""} {
			takes(t, name+"="+x.value, bake.Cookie{MaxAge: -1})
		}
	}
	takes(t, "SameSite", bake.Cookie{MaxAge: -1})
	takes(t, "Strict", bake.Cookie{MaxAge: -1})
}

// Letters that the library holds for the same as the 26 ones aren't.
func TestParseKnowsOfNoOtherLetters(t *testing.T) {
	for _, s := range []string{"\u017fecure", "\u017fame\u017fite=Lax", "same\u017fite=lax", "SameS\u0130te=Lax", "SameSite=\u017ftrict", "SameSite=STR\u0130CT", "SameSite=Str\u0131ct", "\uff33ecure", "Max-\u0391ge=5", "P\u00c1th=/", "SameSite=L\u00c4x"} {
		takes(t, s, bake.Cookie{MaxAge: -1})
	}
	// A byte that differs from the right one by the bit alone that parts capital letters from small ones.
	takes(t, "max\rage=5", bake.Cookie{MaxAge: -1})
}

func TestParseOfTheLastOne(t *testing.T) {
	for _, x := range []struct {
		s string
		c bake.Cookie
	}{
		{"Path=/a; Path=/b", bake.Cookie{Path: "/b", MaxAge: -1}},
		{"Path=/a; path=b", bake.Cookie{MaxAge: -1}},
		{"Path=/a; Path", bake.Cookie{MaxAge: -1}},
		{"Path=a; PATH=/b", bake.Cookie{Path: "/b", MaxAge: -1}},
		{"Path=/a; Paths=/b", bake.Cookie{Path: "/a", MaxAge: -1}},
		{"Max-Age=5; max-age=6", bake.Cookie{MaxAge: 6}},
		{"Max-Age=6; Max-Age=5", bake.Cookie{MaxAge: 5}},
		{"Max-Age=5; Max-Age=-6", bake.Cookie{MaxAge: 0}},
		{"Max-Age=-6; Max-Age=5", bake.Cookie{MaxAge: 5}},
		{"Max-Age=5; Max-Age=x", bake.Cookie{MaxAge: 5}},
		{"Max-Age=5; Max-Age=", bake.Cookie{MaxAge: 5}},
		{"Max-Age=5; Max-Age; Max-Age=-; Max-Age=+7", bake.Cookie{MaxAge: 5}},
		{"Max-Age=x; Max-Age=5", bake.Cookie{MaxAge: 5}},
		{"SameSite=Lax; SameSite=Strict", bake.Cookie{MaxAge: -1, Site: 1}},
		{"SameSite=Lax; samesite=x", bake.Cookie{MaxAge: -1}},
		{"SameSite=Lax; SameSite", bake.Cookie{MaxAge: -1}},
		{"SameSite=x; SameSite=None", bake.Cookie{MaxAge: -1, Site: 3}},
		{"Secure; Secure=0", bake.Cookie{MaxAge: -1, Secure: true}},
		{"HttpOnly; Secure; HttpOnly=no", bake.Cookie{MaxAge: -1, Secure: true, HTTPOnly: true}},
	} {
		takes(t, x.s, x.c)
	}
}

// What stands in attributes is neither a name nor a value, and what else there is says nothing.
func TestParseOfOtherAttributes(t *testing.T) {
	takes(t, " b=2; Expires=Thu, 01 Jan 1970 00:00:00 GMT; Domain=x.org; Partitioned; Priority=High; ; =; =5; a=3", bake.Cookie{MaxAge: -1})
	takes(t, "Comment=Secure", bake.Cookie{MaxAge: -1})
	takes(t, "x=Path=/", bake.Cookie{MaxAge: -1})
	wantTaken(t, "a=Secure, Path=/", bake.Cookie{Name: "a", Value: "Secure, Path=/", MaxAge: -1})
}

// A client's name and value need not be right, nor what it takes beside them.
func TestParseTakesWhatNobodyWrites(t *testing.T) {
	c := bake.Cookie{Name: "a b", Value: `"1"`, Path: "/\t\xff/ ", MaxAge: -1, Site: bake.SiteNone}
	wantNotWritten(t, c)
	c.Path = "/\t\xff/"
	wantTaken(t, `a b="1"; samesite=none; path=/`+"\t\xff/ ", c)
}

// Each byte stands at each place of headers: put in, put instead of another one.
func TestParseOfEachByte(t *testing.T) {
	for _, s := range []string{"", "a", "a=1", " a = 1 ", "a=1; Path=/b; Max-Age=60; Secure; HttpOnly; SameSite=Strict", "a=1;path=/;max-age=-5;samesite=LAX;samesite=none"} {
		for c := range 256 {
			for at := range len(s) + 1 {
				wantAsModel(t, s[:at]+string([]byte{byte(c)})+s[at:])
				if at < len(s) {
					wantAsModel(t, s[:at]+string([]byte{byte(c)})+s[at+1:])
				}
			}
		}
	}
}

// Headers are cut at each place.
func TestParseOfEachBeginning(t *testing.T) {
	s := "a=1; Path=/b; Max-Age=-60; Secure; HttpOnly=; SameSite=Strict; SameSite=Laxx"
	for from := range len(s) + 1 {
		for to := from; to <= len(s); to++ {
			wantAsModel(t, s[from:to])
		}
	}
}

// All texts of a few letters, up to a length.
func TestParseOfAllShortTexts(t *testing.T) {
	const most = 7
	var all func(s string)
	all = func(s string) {
		wantAsModel(t, s)
		if len(s) == most {
			return
		}
		for _, c := range []string{"a", "=", ";", " ", "\t"} {
			all(s + c)
		}
	}
	all("")
}

// Longer texts of what headers are made of.
func TestParseOfPieces(t *testing.T) {
	throw := dice(1)
	pieces := []string{"Path", "path=/", "=/", "/", "Max-Age", "max-age=", "=-", "-", "5", "0", "99999999999999", "Secure", "HttpOnly", "SAMESITE=", "samesite=", "lax", "Strict", "NONE", "none", "=", "=", ";", ";", "; ", " ", "\t", "\n", "x", "\xff", "\u017f", "S", ";Max-Age=7;"}
	counts := [2][4]int{}
	for range 100000 {
		s := "a=1;"
		if throw(20) == 0 {
			s = ""
		}
		for range 1 + throw(12) {
			s += pieces[throw(len(pieces))]
		}
		wantAsModel(t, s)
		c, ok := model(s)
		for i, said := range []bool{!ok, c.Path != "", c.MaxAge > 0, c.Site > 0} {
			if said {
				counts[0][i]++
			} else {
				counts[1][i]++
			}
		}
	}
	if slices.Min(append(counts[0][:], counts[1][:]...)) < 300 {
		t.Errorf("the test is too weak: %d", counts)
	}
}

// P14.2: what is written is taken as it was.

func TestWhatIsWrittenIsTakenAsItWas(t *testing.T) {
	throw := dice(2)
	const octets = "!#az09~._-"
	some := func(n int, from string) string {
		b := make([]byte, n)
		for i := range b {
			b[i] = from[throw(len(from))]
		}
		return string(b)
	}
	ages := []int{-1, 0, 1, 60, maxNum - 1, maxNum}
	written, refused := 0, 0
	for range 50000 {
		c := bake.Cookie{Name: some(1+throw(4), octets), Value: some(throw(5), octets+"=(/:"), MaxAge: ages[throw(len(ages))], Secure: throw(2) > 0, HTTPOnly: throw(2) > 0, Site: throw(4)}
		if throw(2) > 0 {
			c.Path = "/" + some(throw(6), octets+"/  ==,\"\\")
		}
		switch throw(16) {
		case 0:
			c.Name = some(throw(3), octets+"=; ")
		case 1:
			c.Value = some(throw(3), octets+"=; ")
		case 2:
			c.Path = some(throw(3), octets+"/; \t")
		case 3:
			c.MaxAge += 2 - throw(5)
		case 4:
			c.Site = throw(8) - 3
		}
		wantRightly(t, c)
		if isRight(c) {
			written++
		} else {
			refused++
		}
	}
	if written < 10000 || refused < 10000 {
		t.Errorf("the test is too weak: %d were written, %d refused", written, refused)
	}
}

// Names that attributes have, too, and values that look like attributes are taken as they were.
func TestWhatLooksLikeAttributesIsTakenAsItWas(t *testing.T) {
	for _, name := range []string{"Path", "max-age", "Secure", "HttpOnly", "SameSite", "expires", "domain"} {
		for _, value := range []string{"", "/", "=", "5", "-5", "Lax", "Path=/x", "Max-Age=5", "SameSite=None", "=="} {
			for _, path := range []string{"", "/", "/=", "/Secure", "/ =a", "/a=Max-Age=5"} {
				wantRightly(t, bake.Cookie{Name: name, Value: value, Path: path, MaxAge: -1})
				wantRightly(t, bake.Cookie{Name: name, Value: value, Path: path, MaxAge: 0, Secure: true, Site: bake.SiteNone})
			}
		}
	}
}

// Neither a cookie nor a header has a longest length.
func TestOfLongOnes(t *testing.T) {
	n := 1 << 18
	c := bake.Cookie{Name: strings.Repeat("n", n), Value: strings.Repeat("v", n), Path: "/" + strings.Repeat(" p", n), MaxAge: maxNum}
	wantRightly(t, c)
	wantTaken(t, strings.Repeat(" ", n)+headerOf(c)+strings.Repeat(";Secure", n), bake.Cookie{Name: c.Name, Value: c.Value, Path: c.Path, MaxAge: maxNum, Secure: true})
	wantTaken(t, "a=1"+strings.Repeat(";", n)+"Path=/"+strings.Repeat("\t", n), bake.Cookie{Name: "a", Value: "1", Path: "/", MaxAge: -1})
	wantNothing(t, strings.Repeat("a", n)+";a=1")
	c.Path += " "
	wantNotWritten(t, c)
}

// What is answered shares no memory with what is handed in.

// text is the bytes of b, without a copy: whoever changes b changes it.
func text(b []byte) string {
	return unsafe.String(&b[0], len(b))
}

func TestParseSharesNoMemory(t *testing.T) {
	b := []byte("name=value; Path=/path; Max-Age=5")
	c, err := bake.Parse(text(b))
	if err != nil {
		t.Fatal(err)
	}
	clear(b)
	if c != (bake.Cookie{Name: "name", Value: "value", Path: "/path", MaxAge: 5}) {
		t.Errorf("behind a change of the bytes the cookie is %.200q", fields(c))
	}
}

func TestWriteSharesNoMemory(t *testing.T) {
	name, value, path := []byte("name"), []byte("value"), []byte("/path")
	s, err := bake.Write(bake.Cookie{Name: text(name), Value: text(value), Path: text(path), MaxAge: -1})
	if err != nil {
		t.Fatal(err)
	}
	bare, err := bake.Write(bake.Cookie{Name: text(name), MaxAge: -1})
	if err != nil {
		t.Fatal(err)
	}
	clear(name)
	clear(value)
	clear(path)
	if s != "name=value; Path=/path" || bare != "name=" {
		t.Errorf("behind a change of the cookie the headers are %q and %q", s, bare)
	}
}
