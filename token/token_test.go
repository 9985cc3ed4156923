package token_test

import (
	"bytes"
	"crypto/hmac"
	"crypto/sha256"
	"encoding/base64"
	"encoding/binary"
	"errors"
	"math"
	"reflect"
	"slices"
	"strings"
	"testing"
	"unsafe"

	"sojourn/api"
	"sojourn/fail"
	"sojourn/ring"
	"sojourn/token"
)

const (
	master = "master"
	maxNum = 1 << 40
)

// dice are numbers below n that look like any others, by a rule.
func dice(seed uint32) func(n int) int {
	return func(n int) int {
		seed = seed*1664525 + 1013904223
		return int(seed>>8) % n
	}
}

// some makes n bytes that look like any others, by a rule.
func some(n int, seed uint32) string {
	throw := dice(seed)
	b := make([]byte, n)
	for i := range b {
		b[i] = byte(throw(256))
	}
	return string(b)
}

// The model: tokens in the chapters' own words, by the library.

// letters are the letters of bytes.
func letters(s string) string {
	return base64.RawURLEncoding.EncodeToString([]byte(s))
}

// packed are the bytes of claims, whether they are right or not.
func packed(c api.Claims) string {
	var b []byte
	for _, s := range []string{c.Session, c.User} {
		b = append(binary.AppendUvarint(b, uint64(len(s))), s...)
	}
	for _, n := range []int{c.Epoch, c.Issue, c.Key, len(c.Context)} {
		b = binary.AppendUvarint(b, uint64(n))
	}
	for _, n := range c.Context {
		b = binary.AppendUvarint(b, uint64(n))
	}
	return string(b)
}

// key is the key of a number, of a ring with this master.
func key(master string, n int) string {
	h := hmac.New(sha256.New, []byte(master))
	h.Write(binary.BigEndian.AppendUint64([]byte("key"), uint64(n)))
	return string(h.Sum(nil))
}

// tag is the tag of a text under a key.
func tag(key, s string) string {
	h := hmac.New(sha256.New, []byte(key))
	h.Write([]byte(s))
	return string(h.Sum(nil))
}

// sealed are the letters of bytes, a dot, and the letters of their tag under the key of the number n.
func sealed(n int, s string) string {
	return letters(s) + "." + letters(tag(key(master, n), s))
}

// model is the token of claims.
func model(c api.Claims) string {
	return sealed(c.Key, packed(c))
}

// right are claims that are right, those at the edges among them.
func right() []api.Claims {
	l := []api.Claims{
		{Session: "s", User: "u"},
		{Session: "1.7", User: "alice", Epoch: 3, Issue: 9, Context: api.Vector{1, 0, 4}},
		{Session: strings.Repeat("s", 64), User: strings.Repeat("u", 32), Epoch: maxNum, Issue: maxNum, Context: full(16, maxNum)},
		{Session: some(64, 1), User: some(32, 2), Epoch: 127, Issue: 128, Context: full(16, 1)},
		{Session: "\x00", User: "\xff", Epoch: 0, Issue: 1, Context: api.Vector{0, 0, 0, 0, 0, 0, 0, 0, 0, 0, 0, 0, 0, 0, 0, 1}},
		{Session: ".", User: ".", Epoch: 1, Issue: 0, Context: api.Vector{maxNum}},
	}
	for n := 1; n <= 64; n++ {
		l = append(l, api.Claims{Session: some(n, uint32(n)), User: some(1+n%32, uint32(n+100)), Epoch: n * 37, Issue: n << 20, Context: full(n%17, 1+n)})
	}
	return l
}

// full is a vector of counts that are all n.
func full(counts, n int) api.Vector {
	return slices.Repeat(api.Vector{n}, counts)
}

// wrong are claims that aren't right, each for one thing.
func wrong() []api.Claims {
	c := api.Claims{Session: "s", User: "u", Epoch: 1, Issue: 2, Context: api.Vector{3}}
	var l []api.Claims
	add := func(change func(c *api.Claims)) {
		d := c
		change(&d)
		l = append(l, d)
	}
	for _, n := range []int{0, 65, 66, 128, 300} {
		add(func(c *api.Claims) { c.Session = some(n, 1) })
	}
	for _, n := range []int{0, 33, 34, 64, 300} {
		add(func(c *api.Claims) { c.User = some(n, 1) })
	}
	for _, n := range never() {
		add(func(c *api.Claims) { c.Epoch = n })
		add(func(c *api.Claims) { c.Issue = n })
		add(func(c *api.Claims) { c.Context = api.Vector{n} })
		add(func(c *api.Claims) { c.Context = api.Vector{n, 1} })
	}
	for _, v := range []api.Vector{{0}, {1, 0}, {0, 0}, full(17, 1), append(full(16, 1), 0), full(300, 1)} {
		add(func(c *api.Claims) { c.Context = v })
	}
	return l
}

// never are numbers that nothing has.
func never() []int {
	return []int{-1, -2, -maxNum, math.MinInt, maxNum + 1, 2 * maxNum, 1 << 62, math.MaxInt}
}

// newRing is a ring with a current number.
func newRing(t *testing.T, current int) *ring.Ring {
	t.Helper()
	r, err := ring.New(master, current)
	if err != nil {
		t.Fatal(err)
	}
	return r
}

// mint is a token that must be one.
func mint(t *testing.T, r *ring.Ring, c api.Claims) string {
	t.Helper()
	s, err := token.Mint(r, c)
	if err != nil {
		t.Fatalf("Mint of %+v: %v", c, err)
	}
	return s
}

// wantFault tells in the test if err doesn't wrap c, with the place "token" and at.
func wantFault(t *testing.T, what string, err error, c api.Code, at int) {
	t.Helper()
	where, got, ok := fail.Place(err)
	if !errors.Is(err, c) || fail.Number(err) != int(c) || where != "token" || got != at || !ok {
		t.Fatalf("%s: the error is %v (number %d), with the place %q %d, not one of number %d with the place \"token\" %d", what, err, fail.Number(err), where, got, c, at)
	}
	if l := fail.Trail(err); !slices.Equal(l, []string{"token"}) {
		t.Fatalf("%s: the trail is %q", what, l)
	}
}

// wantRead tells in the test if the claims of s aren't c.
func wantRead(t *testing.T, r *ring.Ring, s string, c api.Claims) {
	t.Helper()
	if len(c.Context) == 0 {
		c.Context = nil
	}
	got, err := token.Read(r, s)
	if len(got.Context) == 0 {
		got.Context = nil
	}
	if err != nil || !reflect.DeepEqual(got, c) {
		t.Fatalf("Read of %q, with %d current, is %+v, %v, not %+v", s, r.Current(), got, err, c)
	}
}

// wantRefused tells in the test if s is taken for a token.
func wantRefused(t *testing.T, what string, r *ring.Ring, s string) {
	t.Helper()
	got, err := token.Read(r, s)
	if !reflect.DeepEqual(got, api.Claims{}) {
		t.Fatalf("%s: of %q, with %d current, the claims are %+v", what, s, r.Current(), got)
	}
	wantFault(t, what, err, api.ErrCookie, len(s))
}

// P12.1: the example.

func TestExample(t *testing.T) {
	r := newRing(t, 5)
	for _, c := range right() {
		s := mint(t, r, c)
		if strings.Count(s, ".") != 1 || s[len(s)-44] != '.' {
			t.Errorf("%q hasn't one dot, ahead of its last 43 letters", s)
		}
	}
}

// A token written down once for all: what was given to clients must count behind a change of the program.
func TestTokenAsItIs(t *testing.T) {
	c := api.Claims{Session: "1.7", User: "alice", Epoch: 3, Issue: 300, Context: api.Vector{0, 7}}
	want := letters("\x031.7\x05alice\x03\xac\x02\x05\x02\x00\x07") + "." + letters(tag(key(master, 5), "\x031.7\x05alice\x03\xac\x02\x05\x02\x00\x07"))
	if s := mint(t, newRing(t, 5), c); s != want {
		t.Errorf("the token is %q, not %q", s, want)
	}
}

// P12.1: Mint.

func TestMint(t *testing.T) {
	for _, current := range []int{0, 1, 2, 3, 5, 127, 128, 1 << 20, maxNum - 1, maxNum} {
		r := newRing(t, current)
		for _, c := range right() {
			want := c
			want.Key = current
			for _, n := range append(never(), 0, 1, current, maxNum) {
				c.Key = n
				if s := mint(t, r, c); s != model(want) {
					t.Fatalf("with %d current the token of %+v is %q, not %q", current, c, s, model(want))
				}
			}
		}
		if r.Current() != current {
			t.Errorf("the current number was %d and is %d", current, r.Current())
		}
	}
}

// The current number is that of the call, not that of the ring's beginning.
func TestMintBehindARaise(t *testing.T) {
	r := newRing(t, 5)
	for _, n := range []int{6, 7, 11, maxNum} {
		if !r.Raise(n) {
			t.Fatal(n)
		}
		c := right()[1]
		s := mint(t, r, c)
		c.Key = n
		if s != model(c) {
			t.Errorf("with %d current the token is %q, not %q", n, s, model(c))
		}
		wantRead(t, r, s, c)
	}
}

func TestMintRefuses(t *testing.T) {
	r := newRing(t, 5)
	for _, c := range wrong() {
		s, err := token.Mint(r, c)
		if s != "" {
			t.Errorf("of %+v the token is %q", c, s)
		}
		wantFault(t, "Mint", err, api.ErrArg, 0)
	}
}

func TestMintOfNoRing(t *testing.T) {
	for _, c := range slices.Concat(right(), wrong()) {
		s, err := token.Mint(nil, c)
		if s != "" {
			t.Errorf("of no ring the token of %+v is %q", c, s)
		}
		wantFault(t, "Mint of no ring", err, api.ErrArg, 0)
	}
}

func TestMintWritesIntoNoArgument(t *testing.T) {
	room := api.Vector{1, 2, 3, 9, 9}
	c := api.Claims{Session: "s", User: "u", Key: 77, Context: room[:3]}
	mint(t, newRing(t, 5), c)
	if !slices.Equal(room, api.Vector{1, 2, 3, 9, 9}) || c.Key != 77 {
		t.Errorf("the claims are %+v, and behind their context is %v", c, room)
	}
}

// P12.1: Read.

func TestRead(t *testing.T) {
	for _, current := range []int{0, 1, 2, 3, 5, 127, 128, 1 << 20, maxNum - 1, maxNum} {
		r := newRing(t, current)
		for _, c := range right() {
			s := mint(t, r, c)
			c.Key = current
			for range 2 {
				wantRead(t, r, s, c)
			}
		}
		if r.Current() != current {
			t.Errorf("the current number was %d and is %d", current, r.Current())
		}
	}
}

// A token counts as long as its key is alive: two rotations long, and ahead of them, since it may be current elsewhere.
func TestReadWhileTheKeyIsAlive(t *testing.T) {
	for _, current := range []int{0, 1, 2, 3, 4, 100, maxNum - 1, maxNum} {
		r := newRing(t, current)
		for _, n := range []int{0, 1, 2, 3, 4, 5, current - 4, current - 3, current - 2, current - 1, current, current + 1, current + 100, maxNum - 1, maxNum} {
			if n < 0 || n > maxNum {
				continue
			}
			c := right()[1]
			c.Key = n
			if n >= current-2 {
				wantRead(t, r, model(c), c)
			} else {
				wantRefused(t, "a key that has retired", r, model(c))
			}
		}
	}
}

func TestReadBehindRotations(t *testing.T) {
	r := newRing(t, 1)
	c := right()[1]
	c.Key = 1
	s := mint(t, r, c)
	for n := 2; n <= 5; n++ {
		if !r.Raise(n) {
			t.Fatal(n)
		}
		if n <= 3 {
			wantRead(t, r, s, c)
		} else {
			wantRefused(t, "behind a rotation", r, s)
		}
	}
}

func TestReadOfNoRing(t *testing.T) {
	for _, s := range []string{"", ".", "a.b", mint(t, newRing(t, 0), right()[0]), mint(t, newRing(t, 5), right()[1])} {
		wantRefused(t, "no ring", nil, s)
	}
}

// Of a number that isn't alive nobody has a key: a tag under none counts for nothing.
func TestReadRefusesATagUnderNoKey(t *testing.T) {
	c := right()[1]
	for _, n := range []int{0, 2, 4} {
		c.Key = n
		claims := packed(c)
		for _, k := range []string{"", "\x00", strings.Repeat("\x00", 32), master} {
			s := letters(claims) + "." + letters(tag(k, claims))
			wantRefused(t, "no key, and retired", newRing(t, 9), s)
			wantRefused(t, "no key, and alive", newRing(t, 2), s)
			wantRefused(t, "no key, and no ring", nil, s)
		}
	}
}

func TestReadOfAnotherMaster(t *testing.T) {
	other, err := ring.New("mastes", 5)
	if err != nil {
		t.Fatal(err)
	}
	for _, c := range right() {
		wantRefused(t, "another master", other, mint(t, newRing(t, 5), c))
		wantRefused(t, "another master", newRing(t, 5), mint(t, other, c))
	}
}

func TestReadRefusesAnyTexts(t *testing.T) {
	r := newRing(t, 5)
	s := mint(t, r, right()[1])
	for _, bad := range []string{
		"", ".", "..", "A", "AA", "AA.AA", "=", "\x00", "é", " ", "\n", strings.Repeat("A", 43), "." + strings.Repeat("A", 43), strings.Repeat(".", 300),
		s + s, s + "." + s, "." + s, s + ".", " " + s, s + " ", "\t" + s, s + "\n", s + "\x00", s + "=", strings.Replace(s, ".", "", 1), strings.Replace(s, ".", "..", 1),
		strings.Replace(s, ".", "=.", 1), strings.Replace(s, ".", ".\n", 1), strings.Replace(s, ".", "\n.", 1), strings.Replace(s, ".", ",", 1), "\"" + s + "\"",
		s[strings.IndexByte(s, '.'):], s[strings.IndexByte(s, '.')+1:], s[:strings.IndexByte(s, '.')], s[:strings.IndexByte(s, '.')+1],
		s[strings.IndexByte(s, '.')+1:] + "." + s[:strings.IndexByte(s, '.')],
	} {
		wantRefused(t, "no token", r, bad)
	}
	for n := range 400 {
		wantRefused(t, "any bytes", r, some(n, uint32(n)))
		wantRefused(t, "any letters", r, letters(some(n, uint32(n)))+"."+letters(some(32, uint32(n+1))))
	}
}

// Texts as long as may come end, and are refused.
func TestReadOfLongTexts(t *testing.T) {
	r := newRing(t, 5)
	s := mint(t, r, right()[1])
	long := strings.Repeat("A", 1<<20)
	for _, bad := range []string{long, s + long, long + s, strings.Replace(s, ".", long+".", 1), strings.Replace(s, ".", "."+long, 1), strings.Repeat(s, 5000), strings.Repeat(".", 1<<20), long + "." + long} {
		got, err := token.Read(r, bad)
		if !reflect.DeepEqual(got, api.Claims{}) {
			t.Errorf("of %d bytes the claims are %+v", len(bad), got)
		}
		wantFault(t, "a long text", err, api.ErrCookie, len(bad))
	}
}

// P12.2: what Read takes is the token of what it tells.

// Every text that differs from a token in one byte, lacks some, or has one more, is refused.
func TestReadRefusesEachChange(t *testing.T) {
	r := newRing(t, 5)
	for _, c := range right()[:20] {
		s := mint(t, r, c)
		for i := range len(s) {
			wantRefused(t, "cut", r, s[:i])
			wantRefused(t, "cut ahead", r, s[i+1:])
			wantRefused(t, "without a byte", r, s[:i]+s[i+1:])
			wantRefused(t, "a byte twice", r, s[:i+1]+s[i:])
			for b := range 256 {
				if byte(b) != s[i] {
					wantRefused(t, "a byte changed", r, s[:i]+string([]byte{byte(b)})+s[i+1:])
				}
			}
		}
	}
}

// Of a tag's last letter two bits stand for nothing: another letter with the same bytes isn't taken. So with the claims' last letter.
func TestReadRefusesOtherLettersOfTheSameBytes(t *testing.T) {
	r := newRing(t, 5)
	found := 0
	try := func(s string, last int) {
		for _, c := range "ABCDEFGHIJKLMNOPQRSTUVWXYZabcdefghijklmnopqrstuvwxyz0123456789-_" {
			other := s[:last] + string(c) + s[last+1:]
			claims, tagged, _ := strings.Cut(s, ".")
			claims2, tagged2, _ := strings.Cut(other, ".")
			if other != s && same(claims, claims2) && same(tagged, tagged2) {
				found++
				wantRefused(t, "other letters of the same bytes", r, other)
			}
		}
	}
	for _, c := range right() {
		s := mint(t, r, c)
		try(s, len(s)-1)
		try(s, strings.IndexByte(s, '.')-1)
	}
	if found < 100 {
		t.Errorf("the test is too weak: %d texts", found)
	}
}

// same tells whether two texts are letters of the same bytes, for one who doesn't look at bits that stand for nothing.
func same(a, b string) bool {
	x, errX := base64.RawURLEncoding.DecodeString(a)
	y, errY := base64.RawURLEncoding.DecodeString(b)
	return errX == nil && errY == nil && bytes.Equal(x, y)
}

// The letters of the other base64 are none, nor is padding.
func TestReadRefusesOtherAlphabets(t *testing.T) {
	r := newRing(t, 5)
	changed := 0
	for _, c := range right() {
		s := mint(t, r, c)
		if other := strings.NewReplacer("-", "+", "_", "/").Replace(s); other != s {
			changed++
			wantRefused(t, "other letters", r, other)
		}
		wantRefused(t, "padding", r, s+"=")
		if n := strings.IndexByte(s, '.'); n%4 != 0 {
			wantRefused(t, "padding", r, strings.Replace(s, ".", strings.Repeat("=", 4-n%4)+".", 1))
		}
	}
	if changed < 10 {
		t.Errorf("the test is too weak: %d texts", changed)
	}
}

// Bytes that aren't of right claims are refused, even with their tag.
func TestReadRefusesWrongClaimsWithTheirTag(t *testing.T) {
	r := newRing(t, 5)
	for _, c := range wrong() {
		c.Key = 5
		wantRefused(t, "wrong claims", r, model(c))
	}
	for _, n := range []int{maxNum + 1, 2 * maxNum, 1 << 62, math.MaxInt, -1, math.MinInt} {
		c := right()[1]
		c.Key = n
		wantRefused(t, "a wrong key", r, model(c))
		wantRefused(t, "a wrong key, with the tag of the current one", r, sealed(5, packed(c)))
	}
	good := packed(api.Claims{Session: "s", User: "u", Epoch: 1, Issue: 2, Key: 5, Context: api.Vector{3}})
	wantRead(t, r, sealed(5, good), api.Claims{Session: "s", User: "u", Epoch: 1, Issue: 2, Key: 5, Context: api.Vector{3}})
	for i := range len(good) {
		wantRefused(t, "bytes cut", r, sealed(5, good[:i]))
		wantRefused(t, "bytes cut ahead", r, sealed(5, good[i+1:]))
	}
	for _, more := range []string{"\x00", "\x05", good} {
		wantRefused(t, "bytes more", r, sealed(5, good+more))
		wantRefused(t, "bytes more ahead", r, sealed(5, more+good))
	}
}

// Bytes of no claims aren't those of the zero claims either, whose key may be alive.
func TestReadRefusesNoClaimsWithTheTagOfKey0(t *testing.T) {
	r := newRing(t, 0)
	for _, c := range wrong() {
		wantRefused(t, "wrong claims", r, model(c))
	}
	for _, s := range []string{"", "\x00", "\x01", "\x00\x00\x00\x00\x00\x00", "\x01s\x01u", "s", packed(api.Claims{}), packed(right()[1]) + "\x00"} {
		wantRefused(t, "no claims", r, sealed(0, s))
	}
}

// Numbers that are written longer than they need be are refused, even with their tag.
func TestReadRefusesLongNumbersWithTheirTag(t *testing.T) {
	r := newRing(t, 5)
	for _, bad := range []string{
		"\x81\x00s\x01u\x01\x02\x05\x01\x03", "\x01s\x81\x00u\x01\x02\x05\x01\x03", "\x01s\x01u\x81\x00\x02\x05\x01\x03", "\x01s\x01u\x01\x82\x00\x05\x01\x03",
		"\x01s\x01u\x01\x02\x85\x00\x01\x03", "\x01s\x01u\x01\x02\x05\x81\x00\x03", "\x01s\x01u\x01\x02\x05\x01\x83\x00", "\x01s\x01u\x80\x00\x02\x05\x01\x03", "\x01s\x01u\x01\x02\x05\x80\x00",
	} {
		wantRefused(t, "long numbers", r, sealed(5, bad))
	}
}

// The tag is that of the claims' bytes, under the key of the number that they tell.
func TestReadRefusesOtherTags(t *testing.T) {
	r := newRing(t, 5)
	for _, c := range right() {
		c.Key = 5
		s := packed(c)
		k := key(master, 5)
		for what, other := range map[string]string{
			"the tag of letters":         tag(k, letters(s)),
			"the tag of more":            tag(k, s+"\x00"),
			"the tag of nothing":         tag(k, ""),
			"the tag of an elder key":    tag(key(master, 4), s),
			"the tag of a retired key":   tag(key(master, 1), s),
			"the tag of a later key":     tag(key(master, 6), s),
			"the tag under the master":   tag(master, s),
			"the tag under no key":       tag("", s),
			"a digest":                   string(digest(s)),
			"a digest with the key":      string(digest(k + s)),
			"the key":                    k,
			"no tag":                     "",
			"a tag that is cut":          tag(k, s)[:31],
			"a tag of one byte":          tag(k, s)[:1],
			"a tag with a byte more":     tag(k, s) + "\x00",
			"a tag twice":                tag(k, s) + tag(k, s),
			"a tag of noughts":           strings.Repeat("\x00", 32),
			"a tag with a byte ahead":    "\x00" + tag(k, s),
			"the tag of other claims":    tag(k, packed(api.Claims{Session: "x", User: "u", Key: 5})),
			"the tag of the key changed": tag(k, strings.Replace(s, "\x05", "\x06", 1)+"x"),
		} {
			wantRefused(t, what, r, letters(s)+"."+letters(other))
		}
		wantRead(t, r, letters(s)+"."+letters(tag(k, s)), c)
	}
}

func digest(s string) []byte {
	d := sha256.Sum256([]byte(s))
	return d[:]
}

// Tokens whose claims or tags were put together from two that were given are refused.
func TestReadRefusesPiecesOfTwo(t *testing.T) {
	r := newRing(t, 5)
	var l []string
	for _, c := range right() {
		l = append(l, mint(t, r, c))
	}
	seen := map[string]bool{}
	for _, s := range l {
		if seen[s] {
			t.Fatalf("%q is the token of two claims", s)
		}
		seen[s] = true
	}
	for i, a := range l {
		for k, b := range l {
			if i == k {
				continue
			}
			wantRefused(t, "one's claims, the other's tag", r, a[:len(a)-43]+b[len(b)-43:])
			if spliced := a[:len(a)/2] + b[len(b)/2:]; !seen[spliced] {
				wantRefused(t, "halves of two", r, spliced)
			}
		}
	}
}

// Whatever is taken of texts that are changed in any way is the token of what it tells.
func TestWhatIsTakenIsTheToken(t *testing.T) {
	r := newRing(t, 5)
	throw := dice(1)
	taken := 0
	for range 20000 {
		c := right()[throw(len(right()))]
		c.Key = 2 + throw(6)
		b := []byte(model(c))
		for range throw(3) {
			b[throw(len(b))] = "AB-_.=09 \n"[throw(10)]
		}
		got, err := token.Read(r, string(b))
		if err != nil {
			wantFault(t, "changed", err, api.ErrCookie, len(b))
			continue
		}
		taken++
		if model(got) != string(b) || got.Key < 3 {
			t.Fatalf("%q is taken for %+v", b, got)
		}
	}
	if taken < 1000 {
		t.Errorf("the test is too weak: %d were taken", taken)
	}
}

// What is answered shares no memory with what is handed in, nor with another answer.

func TestReadSharesNoMemory(t *testing.T) {
	r := newRing(t, 5)
	c := right()[1]
	c.Key = 5
	b := []byte(model(c))
	s := unsafe.String(&b[0], len(b))
	got, err := token.Read(r, s)
	if err != nil {
		t.Fatal(err)
	}
	again, err := token.Read(r, s)
	if err != nil {
		t.Fatal(err)
	}
	clear(b)
	again.Context[0] = 99
	if !reflect.DeepEqual(got, c) {
		t.Errorf("behind a change of the bytes the claims are %+v", got)
	}
}

func TestMintSharesNoMemory(t *testing.T) {
	r := newRing(t, 5)
	b := []byte("session")
	c := api.Claims{Session: unsafe.String(&b[0], len(b)), User: "u", Context: api.Vector{1}}
	s := mint(t, r, c)
	want := strings.Clone(s)
	clear(b)
	c.Context[0] = 9
	if s != want {
		t.Errorf("behind a change of the claims the token is %q", s)
	}
}
