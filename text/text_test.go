package text_test

import (
	"encoding/base64"
	"errors"
	"slices"
	"strings"
	"testing"
	"unsafe"

	"sojourn/api"
	"sojourn/fail"
	"sojourn/text"
)

// alphabet is the 64 letters in the chapter's own order.
const alphabet = "ABCDEFGHIJKLMNOPQRSTUVWXYZ" + "abcdefghijklmnopqrstuvwxyz" + "0123456789" + "-_"

// some makes n bytes that look like any others, by a rule.
func some(n int, seed uint32) string {
	b := make([]byte, n)
	for i := range b {
		seed = seed*1664525 + 1013904223
		b[i] = byte(seed >> 24)
	}
	return string(b)
}

// texts are texts of many lengths and kinds, among them all of up to one byte.
func texts() []string {
	l := []string{"", "foobar", "é", "\xff\xfe", "\xfb\xff", "a b\tc", some(1000, 1), some(1<<16, 2), some(1<<16+1, 3), some(1<<20+2, 4)}
	for n := range 130 {
		l = append(l, some(n, uint32(n)), strings.Repeat("\x00", n), strings.Repeat("\xff", n), strings.Repeat("\x10\x83", n))
	}
	for i := range 256 {
		l = append(l, string([]byte{byte(i)}))
	}
	return l
}

// spelt is the letters of s in the chapter's own words: of its bits, noughts behind, six by six.
func spelt(s string) string {
	var bits []int
	for i := range len(s) {
		for shift := 7; shift >= 0; shift-- {
			bits = append(bits, int(s[i])>>shift&1)
		}
	}
	for len(bits)%6 != 0 {
		bits = append(bits, 0)
	}
	var b []byte
	for six := range slices.Chunk(bits, 6) {
		n := 0
		for _, bit := range six {
			n = 2*n + bit
		}
		b = append(b, alphabet[n])
	}
	return string(b)
}

// refused is where the first letter of s is that can't be, in the chapter's own words; -1, if all can.
func refused(s string) int {
	for i := range len(s) {
		if strings.IndexByte(alphabet, s[i]) < 0 {
			return i
		}
	}
	if len(s)%4 == 1 {
		return len(s)
	}
	// Of two letters of four the last has four bits that stand for nothing, of three two.
	for left, of := range map[int]int{2: 16, 3: 4} {
		if len(s)%4 == left && strings.IndexByte(alphabet, s[len(s)-1])%of != 0 {
			return len(s) - 1
		}
	}
	return -1
}

// wantRefused tells in the test if Dec of s isn't an error at the place i.
func wantRefused(t *testing.T, s string, i int) {
	t.Helper()
	got, err := text.Dec(s)
	where, at, ok := fail.Place(err)
	if got != "" || !errors.Is(err, api.ErrForm) || fail.Number(err) != 2 || where != "text" || at != i || !ok {
		t.Fatalf("Dec of %.40q (%d letters) is %.40q, %v, with the place %q %d, not %d", s, len(s), got, err, where, at, i)
	}
	if l := fail.Trail(err); !slices.Equal(l, []string{"text"}) {
		t.Fatalf("Dec of %.40q: the trail is %q", s, l)
	}
}

// wantTaken tells in the test if Dec of s isn't want.
func wantTaken(t *testing.T, s, want string) {
	t.Helper()
	if got, err := text.Dec(s); got != want || err != nil {
		t.Fatalf("Dec of %.40q (%d letters) is %.40q, %v, not %.40q", s, len(s), got, err, want)
	}
}

// P4.1: Enc.

func TestEncOfExamples(t *testing.T) {
	for _, c := range []struct{ text, want string }{
		{"", ""},
		{"f", "Zg"},
		{"fo", "Zm8"},
		{"foo", "Zm9v"},
		{"foob", "Zm9vYg"},
		{"fooba", "Zm9vYmE"},
		{"foobar", "Zm9vYmFy"},
		{"\xfb\xff", "-_8"},
		{"\x00", "AA"},
		{"\x00\x00", "AAA"},
		{"\x00\x00\x00", "AAAA"},
		{"\xff", "_w"},
		{"\xff\xff", "__8"},
		{"\xff\xff\xff", "____"},
		{"\x14\xfb\x9c\x03\xd9\x7e", "FPucA9l-"},
	} {
		if got := text.Enc(c.text); got != c.want {
			t.Errorf("the letters of %q are %q, not %q", c.text, got, c.want)
		}
		wantTaken(t, c.want, c.text)
	}
}

func TestEncHasEachLetter(t *testing.T) {
	for n := range 64 {
		of := n<<18 | n<<12 | n<<6 | n
		s := string([]byte{byte(of >> 16), byte(of >> 8), byte(of)})
		if got, want := text.Enc(s), strings.Repeat(alphabet[n:n+1], 4); got != want {
			t.Errorf("the number %d: the letters are %q, not %q", n, got, want)
		}
		wantTaken(t, strings.Repeat(alphabet[n:n+1], 4), s)
	}
}

func TestEncOfAllTexts(t *testing.T) {
	for _, s := range texts() {
		if got, want := text.Enc(s), base64.RawURLEncoding.EncodeToString([]byte(s)); got != want {
			t.Fatalf("the letters of %d bytes are %.60q, not %.60q", len(s), got, want)
		}
		if len(s) > 2000 {
			continue
		}
		if got, want := text.Enc(s), spelt(s); got != want {
			t.Fatalf("the letters of %d bytes are %.60q, not %.60q", len(s), got, want)
		}
	}
}

func TestEncOfAllPairs(t *testing.T) {
	for i := range 256 {
		for j := range 256 {
			s := string([]byte{byte(i), byte(j)})
			want := string([]byte{alphabet[i>>2], alphabet[i&3<<4|j>>4], alphabet[j&15<<2]})
			if got := text.Enc(s); got != want {
				t.Fatalf("the letters of %x are %q, not %q", s, got, want)
			}
			want = "YWJj" + string([]byte{alphabet[i>>2], alphabet[i&3<<4|j>>4], alphabet[j&15<<2|1], alphabet[63]})
			if got := text.Enc("abc" + s + "\x7f"); got != want {
				t.Fatalf("the letters of abc%x7f are %q, not %q", s, got, want)
			}
		}
	}
}

// P4.1: Dec.

func TestDecOfExamples(t *testing.T) {
	for _, c := range []struct {
		s string
		i int
	}{
		{"Zh", 1},
		{"Z", 1},
		{"Z=", 1},
		{"Zg==", 2},
		{"Zm8=", 3},
		{"Zm9", 2},
		{"Zm9vY", 5},
		{"Zm9vYmFyA", 9},
		{"Zm9vYh", 5},
		{"Zm9vYmF", 6},
		{"=", 0},
		{"====", 0},
		{" Zg", 0},
		{"Zg ", 2},
		{"Z g", 1},
		{"Zm9v\n", 4},
		{"Zm9v\r\n", 4},
		{"\nZm9v", 0},
		{"+_8", 0},
		{"-/8", 1},
		{"Zm9v.YmFy", 4},
		{"Zm9\x00", 3},
		{"é", 0},
		{"\xff", 0},
		{"Zm9v\xc3\xa9", 4},
		// What can't be ahead of the end hides what is wrong at the end.
		{"*m9vY", 0},
		{"Zm9v*", 4},
		{"Z*h", 1},
		{"Zm*", 2},
		{"Zm**", 2},
	} {
		if refused(c.s) != c.i {
			t.Fatalf("the test is wrong: %q", c.s)
		}
		wantRefused(t, c.s, c.i)
	}
	wantTaken(t, "", "")
	wantTaken(t, "Zm9vYmFy", "foobar")
	wantTaken(t, "____", "\xff\xff\xff")
	wantTaken(t, "-_8", "\xfb\xff")
}

func TestDecOfAllThatIsShort(t *testing.T) {
	check := func(s string) {
		if i := refused(s); i >= 0 {
			wantRefused(t, s, i)
			return
		}
		want, err := base64.RawURLEncoding.Strict().DecodeString(s)
		if err != nil {
			t.Fatalf("the test is wrong: %q", s)
		}
		wantTaken(t, s, string(want))
	}
	for i := range 256 {
		check(string([]byte{byte(i)}))
		for j := range 256 {
			check(string([]byte{byte(i), byte(j)}))
			check(string([]byte{'a', byte(i), byte(j)}))
			check(string([]byte{'z', 'Z', byte(i), byte(j)}))
		}
	}
}

func TestDecOfEachLetterThatCannotBe(t *testing.T) {
	for n := 1; n <= 18; n++ {
		first := text.Enc(some(n, uint32(n)))
		for i := range len(first) {
			for c := range 256 {
				b := []byte(first)
				b[i] = byte(c)
				if strings.IndexByte(alphabet, byte(c)) < 0 {
					wantRefused(t, string(b), i)
				}
			}
			// Of two that can't be, the first counts.
			b := []byte(first)
			b[len(b)-1], b[i] = '+', '='
			wantRefused(t, string(b), i)
		}
	}
}

func TestDecOfALetterTooMany(t *testing.T) {
	for n := 0; n <= 90; n += 3 {
		first := text.Enc(some(n, uint32(n)))
		for i := range 64 {
			wantRefused(t, first+alphabet[i:i+1], len(first)+1)
		}
	}
	wantRefused(t, strings.Repeat("A", 1<<20+1), 1<<20+1)
}

func TestDecOfBitsThatStandForNothing(t *testing.T) {
	for n := range 40 {
		s := some(3*n, uint32(n))
		for i := range 64 {
			of1 := text.Enc(s) + "A" + alphabet[i:i+1]
			if i%16 != 0 {
				wantRefused(t, of1, len(of1)-1)
			} else {
				wantTaken(t, of1, s+string([]byte{byte(i >> 4)}))
			}
			of2 := text.Enc(s) + "AA" + alphabet[i:i+1]
			if i%4 != 0 {
				wantRefused(t, of2, len(of2)-1)
			} else {
				wantTaken(t, of2, s+string([]byte{0, byte(i >> 2)}))
			}
			of3 := text.Enc(s) + "AAA" + alphabet[i:i+1]
			wantTaken(t, of3, s+string([]byte{0, 0, byte(i)}))
		}
	}
}

// P4.1: Octets.

// octets are all cookie octets, as the chapter names them.
func octets() string {
	var b []byte
	for c := byte(0x21); c <= 0x7e; c++ {
		if c != 0x22 && c != 0x2c && c != 0x3b && c != 0x5c {
			b = append(b, c)
		}
	}
	return string(b)
}

func TestOctetsOfExamples(t *testing.T) {
	for _, c := range []struct {
		s    string
		want bool
	}{
		{"", true},
		{"a", true},
		{"!", true},
		{"~", true},
		{"[]{}()<>@:/?=+-_.#$%&'*^`|", true},
		{" ", false},
		{"\x7f", false},
		{"\x00", false},
		{"\x20", false},
		{"\x1f", false},
		{"\x80", false},
		{"\xff", false},
		{`"`, false},
		{`"a"`, false},
		{",", false},
		{";", false},
		{`\`, false},
		{"a b", false},
		{"a\tb", false},
		{"a\n", false},
		{"é", false},
		{"a;b", false},
	} {
		if got := text.Octets(c.s); got != c.want {
			t.Errorf("Octets of %q is %v", c.s, got)
		}
	}
	if n := len(octets()); n != 90 || !text.Octets(octets()) {
		t.Errorf("%d octets: %v", n, text.Octets(octets()))
	}
}

func TestOctetsLooksAtEachByte(t *testing.T) {
	eachByte(t, "Octets", text.Octets, octets())
	if !text.Octets(strings.Repeat("a", 1<<20)) || text.Octets(strings.Repeat("a", 1<<20)+";") {
		t.Error("Octets of a long text")
	}
}

// P4.1: Token.

// tokens are all token octets, as the chapter names them.
const tokens = "ABCDEFGHIJKLMNOPQRSTUVWXYZ" + "abcdefghijklmnopqrstuvwxyz" + "0123456789" + "!#$%&'*+-.^_`|~"

func TestTokenOfExamples(t *testing.T) {
	for _, c := range []struct {
		s    string
		want bool
	}{
		{"", false},
		{"a", true},
		{"Z", true},
		{"0", true},
		{"9", true},
		{"sojourn", true},
		{"__Host-id", true},
		{"!#$%&'*+-.^_`|~", true},
		{"a b", false},
		{" a", false},
		{"a ", false},
		{"a\t", false},
		{"a=b", false},
		{"=", false},
		{"@", false},
		{"[", false},
		{"/", false},
		{":", false},
		{"{", false},
		{"}", false},
		{"(a)", false},
		{"<a>", false},
		{`"a"`, false},
		{"a,b", false},
		{"a;b", false},
		{`a\b`, false},
		{"a?", false},
		{"\x00", false},
		{"\x7f", false},
		{"\xff", false},
		{"é", false},
		{"Ａ", false}, // a wide A
		{"٣", false}, // an Arabic three
		{"ſ", false}, // a long s
	} {
		if got := text.Token(c.s); got != c.want {
			t.Errorf("Token of %q is %v", c.s, got)
		}
	}
	if n := len(tokens); n != 77 || !text.Token(tokens) {
		t.Errorf("%d token octets: %v", n, text.Token(tokens))
	}
}

func TestTokenLooksAtEachByte(t *testing.T) {
	eachByte(t, "Token", text.Token, tokens)
	if !text.Token(strings.Repeat("a", 1<<20)) || text.Token(strings.Repeat("a", 1<<20)+"=") {
		t.Error("Token of a long text")
	}
}

// eachByte tells in the test if f doesn't hold, of texts with any byte at any place, of those alone whose bytes are of good.
func eachByte(t *testing.T, name string, f func(string) bool, good string) {
	t.Helper()
	for c := range 256 {
		want := strings.IndexByte(good, byte(c)) >= 0
		if got := f(string([]byte{byte(c)})); got != want {
			t.Errorf("%s of the byte %02x is %v", name, c, got)
		}
		for n := 1; n < 20; n++ {
			for i := range n {
				b := []byte(good[n : 2*n])
				b[i] = byte(c)
				if got := f(string(b)); got != want {
					t.Fatalf("%s of %q is %v", name, b, got)
				}
			}
		}
	}
}

// P4.1: Trim.

func TestTrimOfExamples(t *testing.T) {
	for _, c := range []struct{ s, want string }{
		{"", ""},
		{" ", ""},
		{"\t", ""},
		{" \t \t\t  ", ""},
		{"a", "a"},
		{" a", "a"},
		{"a ", "a"},
		{"\ta\t", "a"},
		{" \t a=1 \t ", "a=1"},
		{"a b", "a b"},
		{" a \t b ", "a \t b"},
		{"\n", "\n"},
		{" \n ", "\n"},
		{"\n a \n", "\n a \n"},
		{"\r a", "\r a"},
		{"\va\f", "\va\f"},
		{"\x00 a \x00", "\x00 a \x00"},
		{"\u00a0a\u00a0", "\u00a0a\u00a0"},
		{"\u0085a\u2003", "\u0085a\u2003"},
		{" \u3000 ", "\u3000"},
		{" é ", "é"},
		{" \xff ", "\xff"},
		{" \xe2\x80 ", "\xe2\x80"},
		{"\xa0 ", "\xa0"},
		{" \x80\x80 \xc3 ", "\x80\x80 \xc3"},
		{"\ufffd ", "\ufffd"},
	} {
		if got := text.Trim(c.s); got != c.want {
			t.Errorf("Trim of %q is %q, not %q", c.s, got, c.want)
		}
	}
}

// trimmed is s without the blanks and tabs around it, in the chapter's own words.
func trimmed(s string) string {
	for s != "" && (s[0] == ' ' || s[0] == '\t') {
		s = s[1:]
	}
	for s != "" && (s[len(s)-1] == ' ' || s[len(s)-1] == '\t') {
		s = s[:len(s)-1]
	}
	return s
}

func TestTrimOfAllBytes(t *testing.T) {
	for i := range 256 {
		for j := range 256 {
			s := string([]byte{byte(i), byte(j)})
			for _, s := range []string{s, " " + s, s + "\t", "\t \t" + s + " \t ", s[:1] + " " + s[1:], s[:1] + "a" + s[1:]} {
				if got := text.Trim(s); got != trimmed(s) {
					t.Fatalf("Trim of %q is %q, not %q", s, got, trimmed(s))
				}
			}
		}
	}
}

func TestTrimOfAllTexts(t *testing.T) {
	for _, s := range texts() {
		for _, s := range []string{s, " " + s, s + "\t", "\t\t" + s + "  ", s + " \t" + s} {
			if got := text.Trim(s); got != trimmed(s) {
				t.Fatalf("Trim of %.40q (%d bytes) is %.40q", s, len(s), got)
			}
		}
	}
	if got := text.Trim(strings.Repeat(" \t", 1<<19)); got != "" {
		t.Errorf("Trim of many blanks leaves %d bytes", len(got))
	}
	if got := text.Trim(strings.Repeat(" \t", 1<<19) + "a" + strings.Repeat("\t ", 1<<19)); got != "a" {
		t.Errorf("Trim of a with many blanks around it leaves %d bytes", len(got))
	}
}

func TestTrimSharesNoMemory(t *testing.T) {
	for _, s := range []string{"a", " a", "a\t", " a=1 ", "sojourn"} {
		s = strings.Clone(s)
		got := text.Trim(s)
		first := uintptr(unsafe.Pointer(unsafe.StringData(s)))
		p := uintptr(unsafe.Pointer(unsafe.StringData(got)))
		if p >= first && p < first+uintptr(len(s)) {
			t.Errorf("what Trim of %q answers lies in %q", s, s)
		}
	}
}

// P4.2.

func TestDecOfEncIsTheText(t *testing.T) {
	for _, s := range texts() {
		wantTaken(t, text.Enc(s), s)
	}
	for i := range 256 {
		for j := range 256 {
			for _, s := range []string{string([]byte{byte(i), byte(j)}), string([]byte{byte(i), 'x', byte(j)}), string([]byte{'x', byte(i), 'y', byte(j)})} {
				wantTaken(t, text.Enc(s), s)
			}
		}
	}
}

func TestWhatDecTakesIsEncOfIt(t *testing.T) {
	check := func(s string) {
		got, err := text.Dec(s)
		if (err == nil) != (refused(s) < 0) {
			t.Fatalf("Dec of %q: %v", s, err)
		}
		if err == nil && text.Enc(got) != s {
			t.Fatalf("Dec of %q is %q, whose letters are %q", s, got, text.Enc(got))
		}
	}
	for i := range 256 {
		check(string([]byte{byte(i)}))
		for j := range 256 {
			check(string([]byte{byte(i), byte(j)}))
			check(string([]byte{byte(i), 'b', byte(j)}))
			check(string([]byte{'c', byte(i), '_', byte(j)}))
			check(string([]byte{'-', '9', 'Q', byte(i), byte(j)}))
			check(string([]byte{'-', '9', 'Q', 'a', byte(i), byte(j)}))
		}
	}
}

// Two texts of letters never stand for the same bytes, so that nobody can change a letter without a byte.
func TestEachLetterThatIsChangedShows(t *testing.T) {
	for n := 1; n <= 20; n++ {
		s := some(n, uint32(n)+3)
		first := text.Enc(s)
		for i := range len(first) {
			for c := range 256 {
				b := []byte(first)
				b[i] = byte(c)
				if got, err := text.Dec(string(b)); err == nil && got == s && byte(c) != first[i] {
					t.Fatalf("%q and %q are the same bytes", b, first)
				}
			}
		}
	}
}

func TestLettersAreCookieOctets(t *testing.T) {
	if !text.Octets(alphabet) {
		t.Error("a letter isn't a cookie octet")
	}
	for _, s := range texts() {
		if !text.Octets(text.Enc(s)) {
			t.Fatalf("the letters of %d bytes aren't cookie octets: %.40q", len(s), text.Enc(s))
		}
	}
}
