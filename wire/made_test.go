package wire_test

import (
	"errors"
	"math"
	"math/rand"
	"reflect"
	"slices"
	"strings"
	"testing"

	"sojourn/api"
	"sojourn/fail"
	"sojourn/wire"
)

// flag is a flag's bytes.
func flag(b bool) string {
	if b {
		return "\x01"
	}
	return "\x00"
}

// writeBytes is a write's bytes in the chapter's own words, right or not; its numbers must be some that can be.
func writeBytes(w api.Write) string {
	return num(w.Region) + num(w.Number) + num(w.Stamp.Time) + vec(w.Deps...) + txt(w.Session) + txt(w.Key) + flag(w.Gone) + txt(w.Value) + num(w.Life)
}

// claimsBytes is claims' bytes in the chapter's own words, likewise.
func claimsBytes(c api.Claims) string {
	return txt(c.Session) + txt(c.User) + num(c.Epoch) + num(c.Issue) + num(c.Key) + vec(c.Context...)
}

// ones is n ones.
func ones(n int) api.Vector {
	v := make(api.Vector, n)
	for i := range v {
		v[i] = 1
	}
	return v
}

// letters is n letters.
func letters(n int) string { return strings.Repeat("k", n) }

// aWrite is a write that is right.
func aWrite() api.Write {
	return api.Write{Region: 3, Number: 300, Stamp: api.Stamp{Time: 900, Region: 3}, Deps: api.Vector{0, 7, 299}, Session: "3-1", Key: "a", Value: "x", Life: 5}
}

// someClaims are claims that are right.
func someClaims() api.Claims {
	return api.Claims{Session: "2-10", User: "ann", Epoch: 1, Issue: 300, Key: 4, Context: api.Vector{0, 7}}
}

// rightWrites are writes that are right, at all limits.
func rightWrites() []api.Write {
	var l []api.Write
	with := func(f func(w *api.Write)) {
		w := aWrite()
		f(&w)
		l = append(l, w)
	}
	with(func(w *api.Write) {})
	for n := 1; n <= api.MaxRegions; n++ {
		with(func(w *api.Write) { w.Region, w.Stamp.Region = n, n })
		with(func(w *api.Write) { w.Deps = ones(n) })
		with(func(w *api.Write) { w.Deps = append(make(api.Vector, n-1), maxNum) })
	}
	for _, n := range []int{1, 2, 127, 128, maxNum - 1, maxNum} {
		with(func(w *api.Write) { w.Number = n })
		with(func(w *api.Write) { w.Stamp.Time = n })
		with(func(w *api.Write) { w.Life = n })
		with(func(w *api.Write) { w.Deps = api.Vector{n} })
		with(func(w *api.Write) { w.Deps = api.Vector{n, 0, n} })
	}
	for _, n := range []int{1, 2, 63, 64} {
		with(func(w *api.Write) { w.Session = letters(n) })
	}
	for _, n := range []int{0, 1, 31, 32} {
		with(func(w *api.Write) { w.Key = letters(n) })
	}
	for _, n := range []int{0, 1, 127, 128} {
		with(func(w *api.Write) { w.Value = letters(n) })
	}
	with(func(w *api.Write) { w.Deps = nil })
	with(func(w *api.Write) { w.Life = 0 })
	with(func(w *api.Write) { w.Gone, w.Value = true, "" })
	with(func(w *api.Write) { w.Gone, w.Value, w.Key, w.Life, w.Deps = true, "", "", 0, nil })
	with(func(w *api.Write) { w.Session, w.Key, w.Value = "\x00\xff;", " é", "\n\x00" })
	with(func(w *api.Write) {
		*w = api.Write{Region: 1, Number: 1, Stamp: api.Stamp{Time: 1, Region: 1}, Session: "s"}
	})
	return l
}

// wrongWrites are writes that aren't right, each in one thing alone.
func wrongWrites() []api.Write {
	var l []api.Write
	with := func(f func(w *api.Write)) {
		w := aWrite()
		f(&w)
		l = append(l, w)
	}
	for _, n := range []int{0, 17, -1, -16, 128, 3 + 128, maxNum, math.MinInt, math.MaxInt} {
		with(func(w *api.Write) { w.Region, w.Stamp.Region = n, n })
		with(func(w *api.Write) { w.Region = n })
		with(func(w *api.Write) { w.Stamp.Region = n })
	}
	with(func(w *api.Write) { w.Stamp.Region = 2 })
	with(func(w *api.Write) { w.Stamp.Region = 4 })
	for _, n := range []int{0, -1, maxNum + 1, greatest, greatest + 1, math.MinInt, math.MaxInt} {
		with(func(w *api.Write) { w.Number = n })
		with(func(w *api.Write) { w.Stamp.Time = n })
	}
	for _, n := range []int{-1, maxNum + 1, greatest, greatest + 1, math.MinInt, math.MaxInt} {
		with(func(w *api.Write) { w.Life = n })
		with(func(w *api.Write) { w.Deps = api.Vector{n} })
		with(func(w *api.Write) { w.Deps = api.Vector{n, 1} })
		with(func(w *api.Write) { w.Deps = api.Vector{1, n, 1} })
	}
	for _, v := range []api.Vector{{0}, {1, 0}, {0, 0, 0}, ones(17), make(api.Vector, 16), make(api.Vector, 17), make(api.Vector, 100)} {
		with(func(w *api.Write) { w.Deps = v })
	}
	for _, n := range []int{0, 65, 128, maxText, maxText + 1} {
		with(func(w *api.Write) { w.Session = letters(n) })
	}
	for _, n := range []int{33, 64, maxText} {
		with(func(w *api.Write) { w.Key = letters(n) })
	}
	for _, n := range []int{129, 256, maxText} {
		with(func(w *api.Write) { w.Value = letters(n) })
	}
	with(func(w *api.Write) { w.Gone = true })
	with(func(w *api.Write) { w.Gone, w.Value = true, "\x00" })
	with(func(w *api.Write) { *w = api.Write{} })
	return l
}

// rightOnes are claims that are right, at all limits.
func rightOnes() []api.Claims {
	var l []api.Claims
	with := func(f func(c *api.Claims)) {
		c := someClaims()
		f(&c)
		l = append(l, c)
	}
	with(func(c *api.Claims) {})
	for _, n := range []int{1, 2, 63, 64} {
		with(func(c *api.Claims) { c.Session = letters(n) })
	}
	for _, n := range []int{1, 2, 31, 32} {
		with(func(c *api.Claims) { c.User = letters(n) })
	}
	for _, n := range []int{0, 1, 127, 128, maxNum - 1, maxNum} {
		with(func(c *api.Claims) { c.Epoch = n })
		with(func(c *api.Claims) { c.Issue = n })
		with(func(c *api.Claims) { c.Key = n })
		with(func(c *api.Claims) { c.Context = api.Vector{n, 1} })
	}
	for n := range api.MaxRegions + 1 {
		with(func(c *api.Claims) { c.Context = ones(n) })
	}
	with(func(c *api.Claims) { c.Context = nil })
	with(func(c *api.Claims) { c.Session, c.User = "\x00", "\xff\x00" })
	with(func(c *api.Claims) { *c = api.Claims{Session: "s", User: "u"} })
	return l
}

// wrongOnes are claims that aren't right, each in one thing alone.
func wrongOnes() []api.Claims {
	var l []api.Claims
	with := func(f func(c *api.Claims)) {
		c := someClaims()
		f(&c)
		l = append(l, c)
	}
	for _, n := range []int{0, 65, 128, maxText, maxText + 1} {
		with(func(c *api.Claims) { c.Session = letters(n) })
	}
	for _, n := range []int{0, 33, 64, maxText, maxText + 1} {
		with(func(c *api.Claims) { c.User = letters(n) })
	}
	for _, n := range []int{-1, maxNum + 1, greatest, greatest + 1, math.MinInt, math.MaxInt} {
		with(func(c *api.Claims) { c.Epoch = n })
		with(func(c *api.Claims) { c.Issue = n })
		with(func(c *api.Claims) { c.Key = n })
		with(func(c *api.Claims) { c.Context = api.Vector{n} })
		with(func(c *api.Claims) { c.Context = api.Vector{1, n, 1} })
	}
	for _, v := range []api.Vector{{0}, {1, 0}, {0, 0, 0}, ones(17), make(api.Vector, 16), make(api.Vector, 17)} {
		with(func(c *api.Claims) { c.Context = v })
	}
	with(func(c *api.Claims) { *c = api.Claims{} })
	return l
}

// canBe tells whether all numbers can be, so that they have bytes at all.
func canBe(l ...int) bool {
	return !slices.ContainsFunc(l, func(n int) bool { return n < 0 || n > greatest })
}

// nilled is a vector of which that without counts is nil.
func nilled(v api.Vector) api.Vector {
	if len(v) == 0 {
		return nil
	}
	return v
}

// wantCode tells in the test if err isn't one that wraps c, of this package.
func wantCode(t *testing.T, what string, err error, c api.Code) {
	t.Helper()
	where, _, ok := fail.Place(err)
	if !errors.Is(err, c) || fail.Number(err) != int(c) || where != "wire" || !ok {
		t.Fatalf("%.60q: the error is %v, at %q", what, err, where)
	}
}

// wantNoWrite tells in the test if s is the bytes of a write.
func wantNoWrite(t *testing.T, s string) {
	t.Helper()
	w, err := wire.DecodeWrite(s)
	if !reflect.DeepEqual(w, api.Write{}) {
		t.Fatalf("with an error the write of %.60x is %+v", s, w)
	}
	wantCode(t, s, err, api.ErrForm)
}

// wantNoClaims tells in the test if s is the bytes of claims.
func wantNoClaims(t *testing.T, s string) {
	t.Helper()
	c, err := wire.DecodeClaims(s)
	if !reflect.DeepEqual(c, api.Claims{}) {
		t.Fatalf("with an error the claims of %.60x are %+v", s, c)
	}
	wantCode(t, s, err, api.ErrForm)
}

// P5.1: EncodeWrite, DecodeWrite.

func TestAWriteOfTheChaptersForm(t *testing.T) {
	s, err := wire.EncodeWrite(aWrite())
	if want := "\x03\xac\x02\x84\x07\x03\x00\x07\xab\x02\x033-1\x01a\x00\x01x\x05"; s != want || err != nil {
		t.Errorf("the bytes are %x, %v, not %x", s, err, want)
	}
	gone := api.Write{Region: 16, Number: 1, Stamp: api.Stamp{Time: 2, Region: 16}, Session: "1-1", Gone: true}
	s, err = wire.EncodeWrite(gone)
	if want := "\x10\x01\x02\x00\x031-1\x00\x01\x00\x00"; s != want || err != nil {
		t.Errorf("the bytes are %x, %v, not %x", s, err, want)
	}
}

func TestRightWrites(t *testing.T) {
	for _, w := range rightWrites() {
		before := w
		before.Deps = slices.Clone(w.Deps)
		s, err := wire.EncodeWrite(w)
		if s != writeBytes(w) || err != nil {
			t.Fatalf("the bytes of %+v are %x, %v, not %x", w, s, err, writeBytes(w))
		}
		if !reflect.DeepEqual(w, before) {
			t.Fatalf("the write %+v is %+v then", before, w)
		}
		got, err := wire.DecodeWrite(s)
		w.Deps = nilled(w.Deps)
		if !reflect.DeepEqual(got, w) || err != nil {
			t.Fatalf("the write of %x is %+v, %v, not %+v", s, got, err, w)
		}
	}
}

func TestWrongWrites(t *testing.T) {
	decoded := 0
	for _, w := range wrongWrites() {
		s, err := wire.EncodeWrite(w)
		if s != "" {
			t.Fatalf("with an error the bytes of %+v are %x", w, s)
		}
		wantCode(t, "a write that isn't right", err, api.ErrArg)
		// The bytes tell one region alone, that of the write.
		if w.Stamp.Region == w.Region && canBe(w.Region, w.Number, w.Stamp.Time, w.Life) && canBe(w.Deps...) {
			wantNoWrite(t, writeBytes(w))
			decoded++
		}
	}
	if decoded < 40 {
		t.Errorf("the test is too weak: %d", decoded)
	}
}

func TestNoList(t *testing.T) {
	w := aWrite()
	w.Deps = nil
	a, err := wire.EncodeWrite(w)
	w.Deps = api.Vector{}
	b, err2 := wire.EncodeWrite(w)
	if a != b || a == "" || err != nil || err2 != nil {
		t.Errorf("without Deps the bytes are %x, of empty ones %x", a, b)
	}
	if got, err := wire.DecodeWrite(a); got.Deps != nil || err != nil {
		t.Errorf("no Deps are read as %v, %v", got.Deps, err)
	}
	c := someClaims()
	c.Context = nil
	a, err = wire.EncodeClaims(c)
	c.Context = api.Vector{}
	b, err2 = wire.EncodeClaims(c)
	if a != b || a == "" || err != nil || err2 != nil {
		t.Errorf("without a Context the bytes are %x, of an empty one %x", a, b)
	}
	if got, err := wire.DecodeClaims(a); got.Context != nil || err != nil {
		t.Errorf("no Context is read as %v, %v", got.Context, err)
	}
}

func TestWhatIsNoWrite(t *testing.T) {
	for _, s := range []string{"", "\x00", "\x03", strings.Repeat("\x00", 9), strings.Repeat("\x01", 9), strings.Repeat("\xff", 40), "write", letters(maxText)} {
		wantNoWrite(t, s)
	}
	// A number or a text longer than it need be, and a flag that is none.
	w := aWrite()
	good := writeBytes(w)
	for _, c := range []struct{ from, to string }{
		{"\x03\xac\x02", "\x83\x00\xac\x02"},
		{"\xac\x02\x84", "\xac\x82\x00\x84"},
		{"\x84\x07\x03", "\x84\x87\x00\x03"},
		{"\x03\x00\x07", "\x83\x00\x00\x07"},
		{"\x03\x00\x07", "\x03\x80\x00\x07"},
		{"\x033-1", "\x83\x003-1"},
		{"\x01a", "\x81\x00a"},
		{"a\x00\x01x", "a\x80\x00\x01x"},
		{"a\x00\x01x", "a\x02\x01x"},
		{"a\x00\x01x", "a\x01\x01x"},
		{"x\x05", "x\x85\x00"},
		{"x\x05", "x\x80\x80\x80\x80\x80\x40"},
	} {
		if !strings.Contains(good, c.from) {
			t.Fatalf("the test is wrong: %x", c.from)
		}
		wantNoWrite(t, strings.Replace(good, c.from, c.to, 1))
	}
}

func TestTheDepsOfAWriteAreNewMemory(t *testing.T) {
	s := writeBytes(aWrite())
	a, _ := wire.DecodeWrite(s)
	b, _ := wire.DecodeWrite(s)
	for i := range a.Deps {
		a.Deps[i] = 99
	}
	if !slices.Equal(b.Deps, aWrite().Deps) {
		t.Errorf("the Deps of another one are %v", b.Deps)
	}
}

// P5.1: EncodeClaims, DecodeClaims.

func TestClaimsOfTheChaptersForm(t *testing.T) {
	s, err := wire.EncodeClaims(someClaims())
	if want := "\x042-10\x03ann\x01\xac\x02\x04\x02\x00\x07"; s != want || err != nil {
		t.Errorf("the bytes are %x, %v, not %x", s, err, want)
	}
}

func TestRightClaims(t *testing.T) {
	for _, c := range rightOnes() {
		before := c
		before.Context = slices.Clone(c.Context)
		s, err := wire.EncodeClaims(c)
		if s != claimsBytes(c) || err != nil {
			t.Fatalf("the bytes of %+v are %x, %v, not %x", c, s, err, claimsBytes(c))
		}
		if !reflect.DeepEqual(c, before) {
			t.Fatalf("the claims %+v are %+v then", before, c)
		}
		got, err := wire.DecodeClaims(s)
		c.Context = nilled(c.Context)
		if !reflect.DeepEqual(got, c) || err != nil {
			t.Fatalf("the claims of %x are %+v, %v, not %+v", s, got, err, c)
		}
	}
}

func TestWrongClaims(t *testing.T) {
	decoded := 0
	for _, c := range wrongOnes() {
		s, err := wire.EncodeClaims(c)
		if s != "" {
			t.Fatalf("with an error the bytes of %+v are %x", c, s)
		}
		wantCode(t, "claims that aren't right", err, api.ErrArg)
		if canBe(c.Epoch, c.Issue, c.Key) && canBe(c.Context...) {
			wantNoClaims(t, claimsBytes(c))
			decoded++
		}
	}
	if decoded < 25 {
		t.Errorf("the test is too weak: %d", decoded)
	}
}

func TestWhatIsNoClaims(t *testing.T) {
	for _, s := range []string{"", "\x00", "\x01", strings.Repeat("\x00", 6), strings.Repeat("\xff", 40), "claims", letters(maxText)} {
		wantNoClaims(t, s)
	}
	good := claimsBytes(someClaims())
	for _, c := range []struct{ from, to string }{
		{"\x042-10", "\x84\x002-10"},
		{"\x03ann", "\x83\x00ann"},
		{"ann\x01", "ann\x81\x00"},
		{"\xac\x02\x04", "\xac\x82\x00\x04"},
		{"\x04\x02\x00\x07", "\x84\x00\x02\x00\x07"},
		{"\x02\x00\x07", "\x82\x00\x00\x07"},
		{"\x02\x00\x07", "\x02\x80\x00\x07"},
		{"\x02\x00\x07", "\x02\x07\x00"},
		{"\x02\x00\x07", "\x03\x00\x07\x00"},
		{"ann\x01", "ann\x81\x80\x80\x80\x80\x20"},
	} {
		if !strings.Contains(good, c.from) {
			t.Fatalf("the test is wrong: %x", c.from)
		}
		wantNoClaims(t, strings.Replace(good, c.from, c.to, 1))
	}
}

func TestTheContextOfClaimsIsNewMemory(t *testing.T) {
	s := claimsBytes(someClaims())
	a, _ := wire.DecodeClaims(s)
	b, _ := wire.DecodeClaims(s)
	for i := range a.Context {
		a.Context[i] = 99
	}
	if !slices.Equal(b.Context, someClaims().Context) {
		t.Errorf("the Context of another one is %v", b.Context)
	}
}

// P5.2: of writes and claims.

// checkWrite tells in the test if s is read as a write, and that would be written otherwise.
func checkWrite(t *testing.T, s string) bool {
	t.Helper()
	w, err := wire.DecodeWrite(s)
	if err != nil {
		wantNoWrite(t, s)
		return false
	}
	if again, err := wire.EncodeWrite(w); again != s || err != nil || writeBytes(w) != s {
		t.Fatalf("the write of %x is %+v, whose bytes are %x, %v", s, w, again, err)
	}
	return true
}

// checkClaims is as checkWrite, of claims.
func checkClaims(t *testing.T, s string) bool {
	t.Helper()
	c, err := wire.DecodeClaims(s)
	if err != nil {
		wantNoClaims(t, s)
		return false
	}
	if again, err := wire.EncodeClaims(c); again != s || err != nil || claimsBytes(c) != s {
		t.Fatalf("the claims of %x are %+v, whose bytes are %x, %v", s, c, again, err)
	}
	return true
}

// turned is s with the byte at i turned by by.
func turned(s string, i int, by byte) string {
	b := []byte(s)
	b[i] ^= by
	return string(b)
}

func TestWhatIsReadAsAWriteWouldBeWrittenSo(t *testing.T) {
	taken, left := 0, 0
	for _, w := range rightWrites() {
		s := writeBytes(w)
		for i := range len(s) {
			for by := 1; by < 256; by++ {
				if checkWrite(t, turned(s, i, byte(by))) {
					taken++
				} else {
					left++
				}
			}
			checkWrite(t, s[:i]+s[i+1:])
			checkWrite(t, s[:i]+"\x00"+s[i:])
			wantNoWrite(t, s[:i])
			wantNoWrite(t, s+s[i:i+1])
		}
	}
	if taken < 1000 || left < 1000 {
		t.Errorf("the test is too weak: %d, %d", taken, left)
	}
}

func TestWhatIsReadAsClaimsWouldBeWrittenSo(t *testing.T) {
	taken, left := 0, 0
	for _, c := range rightOnes() {
		s := claimsBytes(c)
		for i := range len(s) {
			for by := 1; by < 256; by++ {
				if checkClaims(t, turned(s, i, byte(by))) {
					taken++
				} else {
					left++
				}
			}
			checkClaims(t, s[:i]+s[i+1:])
			checkClaims(t, s[:i]+"\x00"+s[i:])
			wantNoClaims(t, s[:i])
			wantNoClaims(t, s+s[i:i+1])
		}
	}
	if taken < 1000 || left < 1000 {
		t.Errorf("the test is too weak: %d, %d", taken, left)
	}
}

func TestBytesByChance(t *testing.T) {
	r := rand.New(rand.NewSource(7))
	writes, claims := 0, 0
	for range 300000 {
		b := make([]byte, r.Intn(24))
		for i := range b {
			b[i] = byte(r.Intn(4))
			if r.Intn(30) == 0 {
				b[i] = byte(r.Intn(256))
			}
		}
		if checkWrite(t, string(b)) {
			writes++
		}
		if checkClaims(t, string(b)) {
			claims++
		}
	}
	if writes < 50 || claims < 50 {
		t.Errorf("the test is too weak: %d writes, %d claims", writes, claims)
	}
}
