package cookie_test

import (
	"errors"
	"regexp"
	"slices"
	"strings"
	"testing"
	"unsafe"

	"sojourn/api"
	"sojourn/cookie"
	"sojourn/fail"
)

// dice are numbers below n that look like any others, by a rule.
func dice(seed uint32) func(n int) int {
	return func(n int) int {
		seed = seed*1664525 + 1013904223
		return int(seed>>8) % n
	}
}

// The model: headers in the chapters' own words, by the library.

// A token octet, a cookie octet, a pair, as RFC 7230 and RFC 6265 write them.
const (
	tokenOctet  = "[!#$%&'*+\\-.^_`|~0-9A-Za-z]"
	cookieOctet = `[\x21\x23-\x2B\x2D-\x3A\x3C-\x5B\x5D-\x7E]`
	onePair     = tokenOctet + "+=" + cookieOctet + "*"
)

var (
	header = regexp.MustCompile(`\A(?:` + onePair + `(?:; ` + onePair + `)*)?\z`)
	// begun is what a header may begin with: pairs with what stands between them, and the beginning of one more, or of what stands behind it.
	begun = longest(`\A(?:` + onePair + `; )*(?:` + tokenOctet + `*|` + onePair + `;?)`)
	whole = regexp.MustCompile(`\A` + onePair + `\z`)
)

// longest is what finds as much as there is.
func longest(s string) *regexp.Regexp {
	r := regexp.MustCompile(s)
	r.Longest()
	return r
}

// model is the pairs of s and -1; or, if s is no header, no pairs and the place of the first byte that can't be.
func model(s string) ([]api.Pair, int) {
	if !header.MatchString(s) {
		return nil, len(begun.FindString(s))
	}
	var l []api.Pair
	if s != "" {
		for p := range strings.SplitSeq(s, "; ") {
			name, value, _ := strings.Cut(p, "=")
			l = append(l, api.Pair{Name: name, Value: value})
		}
	}
	return l, -1
}

// joined are pairs as a header, whether they are right or not.
func joined(l []api.Pair) string {
	var parts []string
	for _, p := range l {
		parts = append(parts, p.Name+"="+p.Value)
	}
	return strings.Join(parts, "; ")
}

// wrongPair is the number of the first pair that isn't right; -1, if all are. What stands behind an equals sign may have one, so that a name's is looked for by itself.
func wrongPair(l []api.Pair) int {
	return slices.IndexFunc(l, func(p api.Pair) bool {
		return strings.Contains(p.Name, "=") || !whole.MatchString(p.Name+"="+p.Value)
	})
}

// hasFault tells whether err wraps c, with the place "cookie" and at, and nothing else ahead.
func hasFault(err error, c api.Code, at int) bool {
	where, got, ok := fail.Place(err)
	return ok && errors.Is(err, c) && fail.Number(err) == int(c) && where == "cookie" && got == at
}

// wantFault tells in the test if err isn't one of this layer alone that wraps c, with the place "cookie" and at.
func wantFault(t *testing.T, what string, err error, c api.Code, at int) {
	t.Helper()
	if !hasFault(err, c, at) {
		where, got, _ := fail.Place(err)
		t.Fatalf("%.200s: the error is %v (number %d), with the place %q %d, not one of number %d with the place \"cookie\" %d", what, err, fail.Number(err), where, got, c, at)
	}
	if l := fail.Trail(err); !slices.Equal(l, []string{"cookie"}) {
		t.Fatalf("%.200s: the trail is %q", what, l)
	}
}

// wantParsed tells in the test if the pairs of s aren't those.
func wantParsed(t *testing.T, s string, want ...api.Pair) {
	t.Helper()
	if got, err := cookie.Parse(s); err != nil || !slices.Equal(got, want) {
		t.Fatalf("Parse of %.200q is %.200q, %v, not %.200q", s, got, err, want)
	}
}

// wantRefused tells in the test if s isn't refused at a place.
func wantRefused(t *testing.T, s string, at int) {
	t.Helper()
	got, err := cookie.Parse(s)
	if got != nil {
		t.Fatalf("Parse of %.200q, which is no header, is %.200q", s, got)
	}
	wantFault(t, "Parse of "+s, err, api.ErrForm, at)
}

// wantAsModel tells in the test if Parse of s isn't what the model says.
func wantAsModel(t *testing.T, s string) {
	t.Helper()
	l, at := model(s)
	if at >= 0 {
		wantRefused(t, s, at)
		return
	}
	wantParsed(t, s, l...)
}

// wantWritten tells in the test if the header with pairs isn't s.
func wantWritten(t *testing.T, s string, l ...api.Pair) {
	t.Helper()
	if got, err := cookie.Write(l); err != nil || got != s {
		t.Fatalf("Write of %.200q is %.200q, %v, not %.200q", l, got, err, s)
	}
}

// wantNotWritten tells in the test if pairs aren't refused for the one with a number.
func wantNotWritten(t *testing.T, at int, l ...api.Pair) {
	t.Helper()
	got, err := cookie.Write(l)
	if got != "" {
		t.Fatalf("Write of %.200q is %.200q beside an error", l, got)
	}
	wantFault(t, "Write of "+joined(l), err, api.ErrArg, at)
}

// wantFound tells in the test if the value of name isn't want.
func wantFound(t *testing.T, s, name, want string) {
	t.Helper()
	if got, err := cookie.Find(s, name); err != nil || got != want {
		t.Fatalf("Find of %q in %.200q is %.200q, %v, not %.200q", name, s, got, err, want)
	}
}

// wantNotFound tells in the test if Find isn't refused by itself.
func wantNotFound(t *testing.T, s, name string, c api.Code) {
	t.Helper()
	got, err := cookie.Find(s, name)
	if got != "" {
		t.Fatalf("Find of %q in %.200q is %.200q beside an error", name, s, got)
	}
	wantFault(t, "Find of "+name+" in "+s, err, c, len(s))
}

// wantFoundFaulty tells in the test if Find doesn't wrap Parse's error at a place.
func wantFoundFaulty(t *testing.T, s, name string, at int) {
	t.Helper()
	got, err := cookie.Find(s, name)
	if got != "" {
		t.Fatalf("Find of %q in %.200q is %.200q beside an error", name, s, got)
	}
	if !hasFault(err, api.ErrForm, len(s)) {
		t.Fatalf("Find of %q in %.200q: the error is %v", name, s, err)
	}
	if l := fail.Trail(err); !slices.Equal(l, []string{"cookie", "cookie"}) {
		t.Fatalf("Find of %q in %.200q: the trail is %q", name, s, l)
	}
	wantFault(t, "within Find of "+name+" in "+s, errors.Unwrap(err), api.ErrForm, at)
}

// P13.1: Parse.

func TestParseOfExamples(t *testing.T) {
	wantParsed(t, "")
	wantParsed(t, "a=1; b=", api.Pair{Name: "a", Value: "1"}, api.Pair{Name: "b"})
	wantRefused(t, "a=1;b", 4)
	wantRefused(t, "a", 1)
	wantRefused(t, "=1", 0)
}

func TestParseTakes(t *testing.T) {
	wantParsed(t, "a=", api.Pair{Name: "a"})
	wantParsed(t, "a==", api.Pair{Name: "a", Value: "="})
	wantParsed(t, "a=b=c", api.Pair{Name: "a", Value: "b=c"})
	wantParsed(t, "a==b; c==", api.Pair{Name: "a", Value: "=b"}, api.Pair{Name: "c", Value: "="})
	wantParsed(t, "a=; a=; a=", api.Pair{Name: "a"}, api.Pair{Name: "a"}, api.Pair{Name: "a"})
	wantParsed(t, "b=2; a=1; B=3", api.Pair{Name: "b", Value: "2"}, api.Pair{Name: "a", Value: "1"}, api.Pair{Name: "B", Value: "3"})
	wantParsed(t, "a=(<[{}]>)/:?@", api.Pair{Name: "a", Value: "(<[{}]>)/:?@"})
	wantParsed(t, "!#$%&'*+-.^_`|~=!#$%&'*+-.^_`|~", api.Pair{Name: "!#$%&'*+-.^_`|~", Value: "!#$%&'*+-.^_`|~"})
}

// Each case is refused for one thing.
func TestParseRefuses(t *testing.T) {
	for _, c := range []struct {
		s  string
		at int
	}{
		{"=", 0}, {"==", 0}, {"; ", 0}, {" ", 0}, {";", 0}, {"; a=1", 0}, {" a=1", 0}, {"\ta=1", 0},
		{"ab", 2}, {"a b", 1}, {"a ", 1}, {"a =1", 1}, {"a;", 1}, {"a; b=1", 1}, {"a(=1", 1}, {"a:=1", 1}, {"a/b=1", 1},
		{"a=1 ", 3}, {"a= 1", 2}, {"a=1,b=2", 3}, {`a="1"`, 2}, {`a=\1`, 2}, {"a=1\t", 3}, {"a=1 ; b=2", 3}, {"a=\x7f", 2}, {"a=\x00", 2}, {"a=\xc3\xa4", 2}, {"a=1\r\n", 3},
		{"a=1;", 4}, {"a=1;\t", 4}, {"a=1;;", 4}, {"a=1;b=2", 4}, {"a=1;\tb=2", 4},
		{"a=1; ", 5}, {"a=1;  ", 5}, {"a=1;  b=2", 5}, {"a=1; ;", 5}, {"a=1; =2", 5}, {"a=1; ; b=2", 5}, {"a=1; \tb=2", 5},
		{"a=1; b", 6}, {"a=1; b;", 6}, {"a=1; b c", 6}, {"a=1; b=2 ", 8}, {"a=1; b=2;", 9}, {"a=1; b=2; ", 10}, {"a=1; b=2; c", 11},
		{"\xc3\xa4=1", 0}, {"a\xc3\xa4=1", 1}, {"a\x00=1", 1}, {"\x00", 0}, {"\xff", 0},
	} {
		wantRefused(t, c.s, c.at)
	}
}

// What stands at the end doesn't hide what stands ahead of it.
func TestParseRefusesTheFirst(t *testing.T) {
	wantRefused(t, `a="; b=", =`, 2)
	wantRefused(t, "a=1, =2; ;", 3)
	wantRefused(t, "a; =", 1)
}

// Each byte stands at each place of headers: put in, put instead of another one.
func TestParseOfEachByte(t *testing.T) {
	for _, s := range []string{"", "a", "a=1", "ab=12", "a=1; b=2", "ab=; cd=34; e=="} {
		for c := range 256 {
			for at := range len(s) + 1 {
				wantAsModel(t, s[:at]+string([]byte{byte(c)})+s[at:])
				if at < len(s) {
					wantAsModel(t, s[:at]+string([]byte{byte(c)})+s[at+1:])
				}
			}
		}
	}
}

// All texts of a few letters, up to a length.
func TestParseOfAllShortTexts(t *testing.T) {
	const most = 7
	var all func(s string)
	all = func(s string) {
		wantAsModel(t, s)
		if len(s) == most {
			return
		}
		for _, c := range []string{"a", "=", ";", " ", ":"} {
			all(s + c)
		}
	}
	all("")
}

// Longer texts of what headers are made of: most are refused, each at its place.
func TestParseOfPieces(t *testing.T) {
	throw := dice(1)
	pieces := []string{"a", "a", "sid", "=", "=", "1=", "; ", "; b=", ";", " ", "\t", `"`, ",", "\\", "\x7f", "\xff", "é", "a=1; ", "~", "(", "x=y"}
	taken, refused := 0, 0
	for range 60000 {
		s := ""
		for range 1 + throw(10) {
			s += pieces[throw(len(pieces))]
		}
		wantAsModel(t, s)
		if header.MatchString(s) {
			taken++
		} else {
			refused++
		}
	}
	if taken < 1000 || refused < 1000 {
		t.Errorf("the test is too weak: %d were taken, %d refused", taken, refused)
	}
}

// A header has no longest length, in Parse.
func TestParseOfLongHeaders(t *testing.T) {
	n := 1 << 18
	name, value := strings.Repeat("n", n), strings.Repeat("v", n)
	wantParsed(t, name+"="+value, api.Pair{Name: name, Value: value})
	wantRefused(t, name, n)
	wantRefused(t, name+"="+value+",", 2*n+1)
	many := slices.Repeat([]api.Pair{{Name: "a", Value: "1"}}, n)
	wantParsed(t, joined(many), many...)
	wantRefused(t, joined(many)+"; ", 5*n)
}

// P13.1: Write.

func TestWrite(t *testing.T) {
	wantWritten(t, "")
	wantWritten(t, "", []api.Pair{}...)
	wantWritten(t, "a=", api.Pair{Name: "a"})
	wantWritten(t, "a=1; b=", api.Pair{Name: "a", Value: "1"}, api.Pair{Name: "b"})
	wantWritten(t, "a==; a=1; A=2", api.Pair{Name: "a", Value: "="}, api.Pair{Name: "a", Value: "1"}, api.Pair{Name: "A", Value: "2"})
}

func TestWriteRefuses(t *testing.T) {
	a := api.Pair{Name: "a", Value: "1"}
	wrong := []api.Pair{{}, {Value: "1"}, {Name: "a=", Value: "1"}, {Name: "a=1"}, {Name: "a b"}, {Name: " a"}, {Name: "a "}, {Name: "a;"}, {Name: "a", Value: " "}, {Name: "a", Value: "1; b=2"}, {Name: "a", Value: "1;"}, {Name: "a", Value: ","}, {Name: "a", Value: `"1"`}, {Name: "a", Value: `\`}, {Name: "é"}, {Name: "a", Value: "é"}, {Name: "a", Value: "1\r\nb: 2"}, {Name: " ", Value: " "}}
	for _, p := range wrong {
		wantNotWritten(t, 0, p)
		wantNotWritten(t, 0, p, a)
		wantNotWritten(t, 1, a, p)
		wantNotWritten(t, 2, a, a, p, a)
		for _, q := range wrong {
			wantNotWritten(t, 1, a, p, q)
		}
	}
	wantNotWritten(t, 1000, append(slices.Repeat([]api.Pair{a}, 1000), api.Pair{Value: "1"})...)
}

// Each byte stands in names and in values.
func TestWriteOfEachByte(t *testing.T) {
	for c := range 256 {
		s := string([]byte{byte(c)})
		for _, w := range []string{s, "a" + s, s + "a", "a" + s + "b"} {
			for _, p := range []api.Pair{{Name: w}, {Name: w, Value: "1"}, {Name: "a", Value: w}} {
				if wrongPair([]api.Pair{p}) < 0 {
					wantWritten(t, p.Name+"="+p.Value, p)
				} else {
					wantNotWritten(t, 0, p)
				}
			}
		}
	}
}

func TestWriteChangesNoArgument(t *testing.T) {
	l := []api.Pair{{Name: "b", Value: "2"}, {Name: "a", Value: "1"}, {Name: "b", Value: "3"}, {Name: " "}}
	want := slices.Clone(l)
	wantWritten(t, "b=2; a=1; b=3", l[:3]...)
	wantNotWritten(t, 3, l...)
	if !slices.Equal(l, want) {
		t.Errorf("the pairs are %q", l)
	}
}

// P13.2: Parse and Write lead to one another.

func TestWhatIsWrittenIsParsed(t *testing.T) {
	throw := dice(2)
	octets := "!#az09~._-"
	some := func(n int, from string) string {
		b := make([]byte, n)
		for i := range b {
			b[i] = from[throw(len(from))]
		}
		return string(b)
	}
	written, refused := 0, 0
	for range 20000 {
		l := make([]api.Pair, throw(5))
		for i := range l {
			l[i] = api.Pair{Name: some(1+throw(4), octets), Value: some(throw(5), octets+"=(/:")}
			switch throw(20) {
			case 0:
				l[i].Name = some(throw(3), octets+"=; ")
			case 1:
				l[i].Value = some(throw(3), octets+"=; ")
			}
		}
		if at := wrongPair(l); at >= 0 {
			refused++
			wantNotWritten(t, at, l...)
			continue
		}
		written++
		wantWritten(t, joined(l), l...)
		wantParsed(t, joined(l), l...)
	}
	if written < 1000 || refused < 1000 {
		t.Errorf("the test is too weak: %d were written, %d refused", written, refused)
	}
}

func TestWhatIsParsedIsWritten(t *testing.T) {
	throw := dice(3)
	const letters = "aa==;; 1,"
	taken := 0
	for range 100000 {
		b := []byte("a=1; b=2; c=")
		for range throw(3) {
			b[throw(len(b))] = letters[throw(len(letters))]
		}
		s := string(b[:throw(len(b)+1)])
		l, err := cookie.Parse(s)
		if err != nil {
			continue
		}
		taken++
		wantWritten(t, s, l...)
	}
	if taken < 10000 {
		t.Errorf("the test is too weak: %d were taken", taken)
	}
}

// P13.1: Find.

func TestFind(t *testing.T) {
	s := "a=1; b=; A=2; ab==3; a.b=x=y"
	wantFound(t, s, "a", "1")
	wantFound(t, s, "b", "")
	wantFound(t, s, "A", "2")
	wantFound(t, s, "ab", "=3")
	wantFound(t, s, "a.b", "x=y")
	wantFound(t, "a=", "a", "")
}

func TestFindMisses(t *testing.T) {
	for _, s := range []string{"", "a=1", "a=1; b=2; a=3", "b=c; d=c=1"} {
		for _, name := range []string{"", "c", "A", "B", "a=", "a=1", "1", "aa", " a", "; ", "c=1", "\x00", "\xff", strings.Repeat("a", 5000)} {
			wantNotFound(t, s, name, api.ErrMissing)
		}
	}
}

func TestFindOfMoreThanOne(t *testing.T) {
	for _, s := range []string{"a=1; a=2", "a=1; a=1", "a=; a=", "a=1; b=2; a=3", "b=2; a=1; a=3", "a=1; a=2; a=3", "a=1; a=2; b=3; a=4"} {
		wantNotFound(t, s, "a", api.ErrThere)
		wantNotFound(t, s, "c", api.ErrMissing)
	}
	wantFound(t, "a=1; b=2; a=3", "b", "2")
	wantFound(t, "a=1; A=2", "a", "1")
}

// A header that isn't right has no pair, not even one ahead of what is wrong; and its error comes ahead of the others.
func TestFindInNoHeader(t *testing.T) {
	for _, c := range []struct {
		s  string
		at int
	}{
		{"=", 0}, {"a", 1}, {"a=1;", 4}, {"a=1;b", 4}, {"a=1; ", 5}, {"a=1; a=2;", 9}, {"b=1; c=2,", 8}, {"a=1; b", 6}, {" a=1", 0}, {`a="1"`, 2},
	} {
		for _, name := range []string{"a", "b", "", "c"} {
			wantFoundFaulty(t, c.s, name, c.at)
		}
	}
}

// of is a text that goes on until it has n bytes.
func of(n int, s string) string {
	return s + strings.Repeat("x", n-len(s))
}

func TestFindAtTheLimit(t *testing.T) {
	const most = 4096
	s := of(most, "a=1; b=2; b=3; long=")
	wantFound(t, s, "a", "1")
	wantFound(t, s, "long", strings.TrimPrefix(s, "a=1; b=2; b=3; long="))
	wantNotFound(t, s, "b", api.ErrThere)
	wantNotFound(t, s, "c", api.ErrMissing)
	wantFoundFaulty(t, of(most, "a=1; b"), "a", most)
	wantFoundFaulty(t, of(most, "a=1;b"), "a", 4)

	for _, n := range []int{most + 1, most + 2, 2 * most, 1 << 16, 1 << 20} {
		for _, s := range []string{of(n, "a=1; b=2; b=3; long="), of(n, "a=1; b"), of(n, "a=1;b"), strings.Repeat("a=1; ", n)[:n]} {
			for _, name := range []string{"a", "b", "c", "long", ""} {
				wantNotFound(t, s, name, api.ErrLong)
			}
		}
	}
}

// Find is what Parse tells, of all texts of pieces.
func TestFindIsWhatParseTells(t *testing.T) {
	throw := dice(4)
	pieces := []string{"a=", "b=", "a=1", "b=2", "; ", "; ", "; ", "1", ",", "; c="}
	counts := [4]int{}
	for range 40000 {
		s := ""
		for range throw(10) {
			s += pieces[throw(len(pieces))]
		}
		var values []string
		l, at := model(s)
		for _, p := range l {
			if p.Name == "a" {
				values = append(values, p.Value)
			}
		}
		switch {
		case at >= 0:
			counts[0]++
			wantFoundFaulty(t, s, "a", at)
		case len(values) == 0:
			counts[1]++
			wantNotFound(t, s, "a", api.ErrMissing)
		case len(values) == 1:
			counts[2]++
			wantFound(t, s, "a", values[0])
		default:
			counts[3]++
			wantNotFound(t, s, "a", api.ErrThere)
		}
	}
	if slices.Min(counts[:]) < 100 {
		t.Errorf("the test is too weak: %d", counts)
	}
}

// What is answered shares no memory with what is handed in.

// text is the bytes of b, without a copy: whoever changes b changes it.
func text(b []byte) string {
	return unsafe.String(&b[0], len(b))
}

func TestParseSharesNoMemory(t *testing.T) {
	b := []byte("name=value; x=; y=1")
	l, err := cookie.Parse(text(b))
	if err != nil {
		t.Fatal(err)
	}
	again, err := cookie.Parse(text(b))
	if err != nil {
		t.Fatal(err)
	}
	clear(b)
	again[0].Name = "other"
	want := []api.Pair{{Name: "name", Value: "value"}, {Name: "x"}, {Name: "y", Value: "1"}}
	if !slices.Equal(l, want) {
		t.Errorf("behind a change of the bytes the pairs are %q", l)
	}
}

func TestWriteSharesNoMemory(t *testing.T) {
	name, value := []byte("name"), []byte("value")
	s, err := cookie.Write([]api.Pair{{Name: text(name), Value: text(value)}})
	if err != nil {
		t.Fatal(err)
	}
	clear(name)
	clear(value)
	if s != "name=value" {
		t.Errorf("behind a change of the pairs the header is %q", s)
	}
}

func TestFindSharesNoMemory(t *testing.T) {
	b, name := []byte("name=value; x=1"), []byte("name")
	s, err := cookie.Find(text(b), text(name))
	if err != nil {
		t.Fatal(err)
	}
	clear(b)
	clear(name)
	if s != "value" {
		t.Errorf("behind a change of the bytes the value is %q", s)
	}
}
