package wire_test

import (
	"encoding/binary"
	"errors"
	"math"
	"math/rand"
	"slices"
	"strings"
	"testing"
	"unsafe"

	"sojourn/api"
	"sojourn/fail"
	"sojourn/wire"
)

const (
	greatest = 1<<62 - 1
	maxText  = 1 << 16
	maxNum   = 1 << 40
)

// num is a number's bytes in the chapter's own words.
func num(n int) string {
	var b []byte
	for ; n >= 128; n /= 128 {
		b = append(b, byte(n%128+0x80))
	}
	return string(append(b, byte(n)))
}

// txt is a text's bytes in the chapter's own words.
func txt(s string) string { return num(len(s)) + s }

// vec is a vector's bytes in the chapter's own words, trimmed or not.
func vec(v ...int) string {
	s := num(len(v))
	for _, n := range v {
		s += num(n)
	}
	return s
}

// wantFault tells in the test if err doesn't wrap c, with the place "wire" and at.
func wantFault(t *testing.T, what string, err error, c api.Code, at int) {
	t.Helper()
	where, n, ok := fail.Place(err)
	if !errors.Is(err, c) || fail.Number(err) != int(c) || where != "wire" || n != at || !ok {
		t.Fatalf("%.60q: the error is %v (number %d), with the place %q %d, not one of number %d at %d", what, err, fail.Number(err), where, n, c, at)
	}
	if l := fail.Trail(err); !slices.Equal(l, []string{"wire"}) {
		t.Fatalf("%.60q: the trail is %q", what, l)
	}
}

// wantDone tells in the test if o's bytes aren't want.
func wantDone(t *testing.T, what string, o *wire.Out, want string) {
	t.Helper()
	if s, err := o.Done(); s != want || err != nil {
		t.Fatalf("%.60q: Done is %.40x (%d bytes), %v, not %.40x (%d bytes)", what, s, len(s), err, want, len(want))
	}
}

// wantOutFault tells in the test if o hasn't a fault that wraps c, where at bytes stood.
func wantOutFault(t *testing.T, what string, o *wire.Out, c api.Code, at int) {
	t.Helper()
	s, err := o.Done()
	if s != "" {
		t.Fatalf("%.60q: with a fault Done is %.40x", what, s)
	}
	wantFault(t, what, err, c, at)
}

// wantInFault tells in the test if i hasn't a fault of the thing that began at at.
func wantInFault(t *testing.T, what string, i *wire.In, at int) {
	t.Helper()
	if n := i.Left(); n != 0 {
		t.Fatalf("%.60q: with a fault %d bytes are left", what, n)
	}
	wantFault(t, what, i.End(), api.ErrForm, at)
}

// numbers are numbers that can be, around all that a number of groups or a limit is near to.
func numbers() []int {
	l := []int{5, 300, 0xac, 16, 17, 32, 64, 128, maxText, greatest, greatest - 1}
	for k := range 62 {
		l = append(l, 1<<k-1, 1<<k, 1<<k+1)
	}
	for k := range 9 {
		l = append(l, 0x55<<(7*k)&greatest, 0x7f<<(7*k)&greatest)
	}
	return l
}

// impossible are numbers that can't be.
func impossible() []int {
	return []int{-1, -2, -127, -128, -maxNum, math.MinInt, math.MinInt + 1, greatest + 1, greatest + 2, math.MaxInt}
}

// vectors are vectors that can be written.
func vectors() []api.Vector {
	full := make(api.Vector, api.MaxRegions)
	for i := range full {
		full[i] = maxNum - i
	}
	last := make(api.Vector, api.MaxRegions)
	last[api.MaxRegions-1] = 1
	return []api.Vector{nil, {}, {1}, {0, 7}, {7}, {0, 0, 0, 128}, {maxNum}, {1, 0, 300, 0, 2}, full, last}
}

// P5.1: Out.

func TestNumIsPut(t *testing.T) {
	for n, want := range map[int]string{
		0: "\x00", 1: "\x01", 5: "\x05", 127: "\x7f", 128: "\x80\x01", 300: "\xac\x02",
		1<<14 - 1: "\xff\x7f", 1 << 14: "\x80\x80\x01", maxNum: "\x80\x80\x80\x80\x80\x20",
		greatest: "\xff\xff\xff\xff\xff\xff\xff\xff\x3f", 1 << 61: "\x80\x80\x80\x80\x80\x80\x80\x80\x20",
	} {
		var o wire.Out
		o.Num(n)
		wantDone(t, num(n), &o, want)
	}
	for _, n := range numbers() {
		var o wire.Out
		o.Num(n)
		wantDone(t, num(n), &o, num(n))
		wantDone(t, num(n), &o, string(binary.AppendUvarint(nil, uint64(n))))
	}
}

func TestNumThatCannotBe(t *testing.T) {
	for _, n := range impossible() {
		var o wire.Out
		o.Num(n)
		wantOutFault(t, "at the beginning", &o, api.ErrArg, 0)
		o = wire.Out{}
		o.Num(300)
		o.Num(n)
		wantOutFault(t, "behind two bytes", &o, api.ErrArg, 2)
	}
}

func TestTextIsPut(t *testing.T) {
	for s, want := range map[string]string{"": "\x00", "ab": "\x02ab", "\x00": "\x01\x00", "é\xff": "\x03é\xff"} {
		var o wire.Out
		o.Text(s)
		wantDone(t, s, &o, want)
	}
	for n := range 400 {
		s := strings.Repeat("xy", n)[:n]
		var o wire.Out
		o.Text(s)
		wantDone(t, "a text", &o, txt(s))
	}
}

func TestFlagIsPut(t *testing.T) {
	var o wire.Out
	o.Flag(true)
	o.Flag(false)
	o.Flag(true)
	wantDone(t, "flags", &o, "\x01\x00\x01")
}

func TestVecIsPut(t *testing.T) {
	var o wire.Out
	o.Vec(api.Vector{0, 7})
	wantDone(t, "the example", &o, "\x02\x00\x07")
	for _, v := range vectors() {
		o = wire.Out{}
		before := slices.Clone(v)
		o.Vec(v)
		wantDone(t, "a vector", &o, vec(v...))
		if !slices.Equal(v, before) {
			t.Fatalf("the vector %v is %v then", before, v)
		}
		// What comes of the argument later changes nothing.
		for i := range v {
			v[i] = 99
		}
		wantDone(t, "a vector that is another one by now", &o, vec(before...))
	}
	// The one who writes takes all counts that are numbers.
	o = wire.Out{}
	o.Vec(api.Vector{maxNum + 1, greatest})
	wantDone(t, "great counts", &o, vec(maxNum+1, greatest))
}

func TestVecThatCannotBe(t *testing.T) {
	long := make(api.Vector, api.MaxRegions+1)
	long[api.MaxRegions] = 1
	l := []api.Vector{{0}, {0, 0}, {1, 0}, {7, 7, 0}, make(api.Vector, api.MaxRegions), make(api.Vector, api.MaxRegions+1), long, make(api.Vector, 1<<17)}
	for _, n := range impossible() {
		l = append(l, api.Vector{n}, api.Vector{n, 1}, api.Vector{1, n}, api.Vector{1, n, 1})
	}
	for _, v := range l {
		var o wire.Out
		o.Vec(v)
		wantOutFault(t, "at the beginning", &o, api.ErrArg, 0)
		o = wire.Out{}
		o.Text("ab")
		o.Vec(v)
		wantOutFault(t, "behind three bytes", &o, api.ErrArg, 3)
	}
}

// filled is an Out that has n bytes already.
func filled(n int) *wire.Out {
	var o wire.Out
	if n >= 4 {
		o.Text(strings.Repeat("t", n-4))
	}
	for {
		s, err := o.Done()
		if err != nil || len(s) > n {
			panic("the test is wrong")
		}
		if len(s) == n {
			return &o
		}
		o.Num(1)
	}
}

func TestOutHasAtMostMaxText(t *testing.T) {
	for _, c := range []struct {
		name string
		size int
		put  func(o *wire.Out)
	}{
		{"a short number", 1, func(o *wire.Out) { o.Num(127) }},
		{"a number of two bytes", 2, func(o *wire.Out) { o.Num(128) }},
		{"the greatest number", 9, func(o *wire.Out) { o.Num(greatest) }},
		{"a flag", 1, func(o *wire.Out) { o.Flag(false) }},
		{"no text", 1, func(o *wire.Out) { o.Text("") }},
		{"a short text", 4, func(o *wire.Out) { o.Text("abc") }},
		{"a text", 130, func(o *wire.Out) { o.Text(strings.Repeat("a", 128)) }},
		{"the longest text", maxText, func(o *wire.Out) { o.Text(strings.Repeat("a", maxText-3)) }},
		{"no vector", 1, func(o *wire.Out) { o.Vec(nil) }},
		{"a vector", 4, func(o *wire.Out) { o.Vec(api.Vector{1, 128}) }},
	} {
		o := filled(maxText - c.size)
		ahead, _ := o.Done()
		c.put(o)
		if s, err := o.Done(); len(s) != maxText || err != nil || !strings.HasPrefix(s, ahead) {
			t.Errorf("%s that just fits: %d bytes, %v", c.name, len(s), err)
		}
		if c.size < maxText {
			o = filled(maxText - c.size + 1)
			c.put(o)
			wantOutFault(t, c.name, o, api.ErrLong, maxText-c.size+1)
			// Nothing is put any more, however short it is, and the first fault stays.
			o.Flag(true)
			o.Num(-1)
			wantOutFault(t, c.name, o, api.ErrLong, maxText-c.size+1)
		}
		o = filled(maxText)
		c.put(o)
		wantOutFault(t, c.name, o, api.ErrLong, maxText)
	}
	for _, n := range []int{maxText - 2, maxText - 1, maxText, maxText + 1, 1 << 21} {
		var o wire.Out
		o.Text(strings.Repeat("a", n))
		wantOutFault(t, "a text that is too long", &o, api.ErrLong, 0)
	}
	// What can't be is a fault of that kind, also where there is no room.
	o := filled(maxText)
	o.Num(-1)
	wantOutFault(t, "no number", o, api.ErrArg, maxText)
	o = filled(maxText)
	o.Vec(api.Vector{1, 0})
	wantOutFault(t, "no vector", o, api.ErrArg, maxText)
	o = filled(maxText - 1)
	o.Vec(api.Vector{1, -1})
	wantOutFault(t, "no count", o, api.ErrArg, maxText-1)
}

func TestOutOfManySmallThings(t *testing.T) {
	var o wire.Out
	for n := range maxText {
		o.Num(n % 128)
	}
	s, err := o.Done()
	if len(s) != maxText || err != nil {
		t.Fatalf("%d bytes, %v", len(s), err)
	}
	for n := range maxText {
		if int(s[n]) != n%128 {
			t.Fatalf("the byte %d is %02x", n, s[n])
		}
	}
	o.Num(0)
	wantOutFault(t, "one more", &o, api.ErrLong, maxText)
}

func TestTheFirstFaultOfAnOutStays(t *testing.T) {
	var o wire.Out
	o.Num(5)
	o.Vec(api.Vector{0})
	o.Num(6)
	o.Text("abc")
	o.Flag(true)
	o.Vec(api.Vector{1})
	o.Text(strings.Repeat("a", maxText))
	o.Num(-1)
	for range 3 {
		wantOutFault(t, "a vector that isn't trimmed", &o, api.ErrArg, 1)
	}
}

func TestDoneMayBeAskedAtAnyTime(t *testing.T) {
	var o wire.Out
	wantDone(t, "nothing", &o, "")
	want := ""
	for n := range 300 {
		o.Num(n)
		o.Text(num(n))
		want += num(n) + txt(num(n))
		wantDone(t, "up to now", &o, want)
		wantDone(t, "and again", &o, want)
	}
}

func TestAnOutAndItsCopyDontMeet(t *testing.T) {
	for n := range 20 {
		var o wire.Out
		want := ""
		for k := range n {
			o.Num(k)
			want += num(k)
		}
		p := o
		o.Num(100)
		p.Text("ab")
		q := o
		q.Flag(true)
		o.Vec(api.Vector{7})
		wantDone(t, "the first", &o, want+"\x64\x01\x07")
		wantDone(t, "its copy", &p, want+"\x02ab")
		wantDone(t, "a later copy", &q, want+"\x64\x01")
		p.Num(-1)
		wantDone(t, "the first, behind a fault of its copy", &o, want+"\x64\x01\x07")
	}
}

func TestANilOut(t *testing.T) {
	var o *wire.Out
	for range 2 {
		wantOutFault(t, "a nil *Out", o, api.ErrArg, 0)
		o.Num(1)
		o.Num(-1)
		o.Text("a")
		o.Text(strings.Repeat("a", maxText+1))
		o.Flag(true)
		o.Vec(api.Vector{1})
		o.Vec(api.Vector{0})
	}
}

func TestAnErrorThatIsChangedChangesNoOther(t *testing.T) {
	var o wire.Out
	o.Num(-1)
	i := wire.Read("\x80\x00")
	i.Num(9)
	for range 2 {
		_, err := o.Done()
		for _, err := range []error{err, i.End()} {
			where, at, _ := fail.Place(err)
			if where != "wire" || at != 0 || fail.Number(err) < 1 {
				t.Fatal(err)
			}
			if e, ok := err.(*fail.Error); ok {
				e.Where, e.At, e.Err = "elsewhere", 7, nil
			}
		}
	}
}

// putSomething puts one thing that r tells, into o and into what it should be then.
func putSomething(r *rand.Rand, o *wire.Out, m *model) {
	switch r.Intn(6) {
	case 0:
		n := numbers()[r.Intn(len(numbers()))]
		o.Num(n)
		m.put(num(n))
	case 1:
		s := strings.Repeat("s", r.Intn(1<<r.Intn(18)))
		o.Text(s)
		m.put(txt(s))
	case 2:
		b := r.Intn(2) == 1
		o.Flag(b)
		m.put(num(map[bool]int{true: 1}[b]))
	case 3:
		v := vectors()[r.Intn(len(vectors()))]
		o.Vec(v)
		m.put(vec(v...))
	case 4:
		if r.Intn(30) == 0 {
			o.Num(impossible()[r.Intn(len(impossible()))])
			m.refuse(api.ErrArg)
		}
	case 5:
		if r.Intn(30) == 0 {
			o.Vec(api.Vector{3, 0})
			m.refuse(api.ErrArg)
		}
	}
}

// model is what an Out should be.
type model struct {
	s     string
	fault api.Code
}

func (m *model) put(s string) {
	if len(m.s)+len(s) > maxText {
		m.refuse(api.ErrLong)
	}
	if m.fault == 0 {
		m.s += s
	}
}

func (m *model) refuse(c api.Code) {
	if m.fault == 0 {
		m.fault = c
	}
}

func TestOutInEveryOrderOfCalls(t *testing.T) {
	r := rand.New(rand.NewSource(5))
	faults := map[api.Code]int{}
	for range 300 {
		var o wire.Out
		var m model
		for range r.Intn(80) {
			putSomething(r, &o, &m)
			if m.fault != 0 {
				wantOutFault(t, "by chance", &o, m.fault, len(m.s))
			} else {
				wantDone(t, "by chance", &o, m.s)
			}
		}
		faults[m.fault]++
	}
	if faults[0] < 20 || faults[api.ErrArg] < 20 || faults[api.ErrLong] < 20 {
		t.Errorf("the test is too weak: %v", faults)
	}
}

// P5.1: In.

// numAt is the number that stands in s at at, in the chapter's own words, and how many bytes it has (0: none).
func numAt(s string, at int) (int, int) {
	for n := 1; n <= 9 && at+n <= len(s); n++ {
		sum := uint64(0)
		for k := range n {
			sum += uint64(s[at+k]&0x7f) << (7 * k)
		}
		if sum <= greatest && num(int(sum)) == s[at:at+n] {
			return int(sum), n
		}
	}
	return 0, 0
}

// textAt is the text that stands in s at at, and how many bytes it has with its number (0: none).
func textAt(s string, at int) (string, int) {
	n, k := numAt(s, at)
	if k == 0 || n > len(s)-at-k {
		return "", 0
	}
	return s[at+k : at+k+n], k + n
}

// vecAt is the vector that stands in s at at and can be read, and how many bytes it has (0: none).
func vecAt(s string, at int) ([]int, int) {
	n, size := numAt(s, at)
	if size == 0 || n > api.MaxRegions {
		return nil, 0
	}
	var v []int
	for range n {
		c, k := numAt(s, at+size)
		if k == 0 || c > maxNum {
			return nil, 0
		}
		v = append(v, c)
		size += k
	}
	if n > 0 && v[n-1] == 0 {
		return nil, 0
	}
	return v, size
}

// mosts are what a thing is read with.
func mosts() []int {
	return []int{math.MinInt, -1, 0, 1, 2, 3, 16, 127, 128, 255, maxNum, greatest, math.MaxInt}
}

// texts are all texts of up to two bytes, and others that a number, a text or a vector begins.
func texts() []string {
	l := []string{""}
	for a := range 256 {
		l = append(l, string([]byte{byte(a)}))
		for b := range 256 {
			l = append(l, string([]byte{byte(a), byte(b)}))
		}
		for _, b := range []byte{0, 1, 2, 0x7f, 0x80, 0xff} {
			for _, c := range []byte{0, 1, 2, 0x7f, 0x80, 0xff} {
				l = append(l, string([]byte{byte(a), b, c}), string([]byte{2, byte(a), b, c}), string([]byte{b, c, byte(a)}))
			}
		}
	}
	for n := range 12 {
		full, high := strings.Repeat("\xff", n), strings.Repeat("\x80", n)
		for _, c := range []string{"\x00", "\x01", "\x20", "\x3f", "\x40", "\x7f"} {
			l = append(l, full, high, full+c, high+c, full+c+"a", high+c+"a", "\x01"+full+c, "\x01"+high+c, full+high+c)
		}
	}
	return l
}

// wantNum tells in the test if the number next in i isn't what stands in s at at; it is the place behind it, and whether all is well.
func wantNum(t *testing.T, i *wire.In, s string, at, most int) (int, bool) {
	t.Helper()
	want, size := numAt(s, at)
	good := size > 0 && want <= most
	if !good {
		want, size = 0, 0
	}
	if n := i.Num(most); n != want {
		t.Fatalf("in %.40x at %d: Num(%d) is %d, not %d", s, at, most, n, want)
	}
	return at + size, good
}

// wantText is as wantNum, of a text.
func wantText(t *testing.T, i *wire.In, s string, at, most int) (int, bool) {
	t.Helper()
	want, size := textAt(s, at)
	good := size > 0 && len(want) <= most
	if !good {
		want, size = "", 0
	}
	if got := i.Text(most); got != want {
		t.Fatalf("in %.40x at %d: Text(%d) is %.40q, not %.40q", s, at, most, got, want)
	}
	return at + size, good
}

// wantFlag is as wantNum, of a flag.
func wantFlag(t *testing.T, i *wire.In, s string, at int) (int, bool) {
	t.Helper()
	n, size := numAt(s, at)
	good := size > 0 && n <= 1
	if !good {
		n, size = 0, 0
	}
	if got := i.Flag(); got != (n == 1) {
		t.Fatalf("in %.40x at %d: Flag is %v", s, at, got)
	}
	return at + size, good
}

// wantVec is as wantNum, of a vector.
func wantVec(t *testing.T, i *wire.In, s string, at int) (int, bool) {
	t.Helper()
	want, size := vecAt(s, at)
	got := i.Vec()
	if !slices.Equal(got, want) || size == 0 && got != nil {
		t.Fatalf("in %.40x at %d: Vec is %v, not %v", s, at, got, want)
	}
	return at + size, size > 0
}

// wantState tells in the test if i hasn't come to at, well or not.
func wantState(t *testing.T, i *wire.In, s string, at int, good bool) {
	t.Helper()
	if !good {
		wantInFault(t, s, i, at)
		return
	}
	if n := i.Left(); n != len(s)-at {
		t.Fatalf("in %.40x at %d: %d bytes are left", s, at, n)
	}
	if at == len(s) {
		if err := i.End(); err != nil {
			t.Fatalf("at the end of %.40x: %v", s, err)
		}
		return
	}
	wantFault(t, s, i.End(), api.ErrForm, at)
}

func TestEachThingIsRead(t *testing.T) {
	for _, s := range texts() {
		for _, most := range mosts() {
			i := wire.Read(s)
			at, good := wantNum(t, i, s, 0, most)
			wantState(t, i, s, at, good)
			i = wire.Read(s)
			at, good = wantText(t, i, s, 0, most)
			wantState(t, i, s, at, good)
		}
		i := wire.Read(s)
		at, good := wantFlag(t, i, s, 0)
		wantState(t, i, s, at, good)
		i = wire.Read(s)
		at, good = wantVec(t, i, s, 0)
		wantState(t, i, s, at, good)
	}
}

func TestNumIsRead(t *testing.T) {
	for _, n := range numbers() {
		for _, most := range []int{n, n + 1, greatest, math.MaxInt} {
			i := wire.Read(num(n) + "x")
			if got := i.Num(most); got != n || i.Left() != 1 {
				t.Fatalf("the number %d is read as %d, %d bytes are left", n, got, i.Left())
			}
		}
		for _, most := range []int{n - 1, -1, math.MinInt} {
			i := wire.Read("\x00" + num(n))
			i.Flag()
			if got := i.Num(most); got != 0 {
				t.Fatalf("above %d the number %d is read as %d", most, n, got)
			}
			wantInFault(t, "a number above most", i, 1)
		}
		for cut := range len(num(n)) {
			i := wire.Read("\x01" + num(n)[:cut])
			i.Flag()
			if got := i.Num(math.MaxInt); got != 0 {
				t.Fatalf("of %d, cut, there is %d", n, got)
			}
			wantInFault(t, "a number that is cut", i, 1)
		}
	}
}

func TestWhatIsNoNumber(t *testing.T) {
	for _, s := range []string{
		"", "\x80", "\x80\x00", "\x81\x00", "\xff\x00", "\xff\x80\x00", "\x80\x80\x00", "\x85\x80\x80\x00",
		"\xff\xff\xff\xff\xff\xff\xff\xff\x40", "\x80\x80\x80\x80\x80\x80\x80\x80\x40", "\xff\xff\xff\xff\xff\xff\xff\xff\x7f",
		"\xff\xff\xff\xff\xff\xff\xff\xff\x00", "\xff\xff\xff\xff\xff\xff\xff\xff\xff\x01", "\x80\x80\x80\x80\x80\x80\x80\x80\x80\x01",
		"\x81\x80\x80\x80\x80\x80\x80\x80\x80\x02", "\x81\x80\x80\x80\x80\x80\x80\x80\x80\x00", strings.Repeat("\x80", 100) + "\x01", strings.Repeat("\xff", 100),
	} {
		i := wire.Read("\x05" + s)
		if n := i.Num(5); n != 5 {
			t.Fatal(n)
		}
		if n := i.Num(math.MaxInt); n != 0 {
			t.Fatalf("%x is read as %d", s, n)
		}
		wantInFault(t, s, i, 1)
	}
	i := wire.Read("\xff\xff\xff\xff\xff\xff\xff\xff\x3f")
	if n := i.Num(greatest); n != greatest || i.End() != nil {
		t.Errorf("the greatest number is read as %d, %v", n, i.End())
	}
}

func TestTextIsRead(t *testing.T) {
	for _, n := range []int{0, 1, 2, 126, 127, 128, 129, 300, maxText - 3, maxText, 1 << 20} {
		s := strings.Repeat("ab\x80\x00", n/4+1)[:n]
		for _, most := range []int{n, n + 1, math.MaxInt} {
			i := wire.Read("\x07" + txt(s) + "x")
			i.Num(7)
			if got := i.Text(most); got != s || i.Left() != 1 {
				t.Fatalf("a text of %d bytes is read as %d bytes, %d are left", n, len(got), i.Left())
			}
		}
		for _, most := range []int{n - 1, -1, math.MinInt} {
			i := wire.Read("\x07" + txt(s) + "x")
			i.Num(7)
			if got := i.Text(most); got != "" {
				t.Fatalf("above %d a text of %d bytes is read as %d bytes", most, n, len(got))
			}
			wantInFault(t, "a text above most", i, 1)
		}
		for _, cut := range []int{1, 2, n/2 + 1, n, n + 1} {
			if cut == 0 || cut > len(txt(s)) {
				continue
			}
			i := wire.Read("\x07" + txt(s)[:len(txt(s))-cut])
			i.Num(7)
			if got := i.Text(math.MaxInt); got != "" {
				t.Fatalf("a text of %d bytes, cut by %d, is read as %d bytes", n, cut, len(got))
			}
			wantInFault(t, "a text that is cut", i, 1)
		}
	}
	// A number that isn't written so is no text's, nor one that is greater than all that is.
	for _, s := range []string{"\x82\x00ab", "\x80\x00", "\xff\xff\xff\xff\xff\xff\xff\xff\x3fab", "\xff\xff\xff\xff\xff\xff\xff\xff\x7fab"} {
		i := wire.Read(s)
		if got := i.Text(math.MaxInt); got != "" {
			t.Fatalf("%x is read as %q", s, got)
		}
		wantInFault(t, s, i, 0)
	}
}

func TestFlagIsRead(t *testing.T) {
	i := wire.Read("\x01\x00\x01\x02")
	if !i.Flag() || i.Flag() || !i.Flag() || i.Left() != 1 {
		t.Error("flags")
	}
	if i.Flag() {
		t.Error("2 is a flag")
	}
	wantInFault(t, "no flag", i, 3)
	for _, s := range []string{"", "\x02", "\x7f", "\x80\x00", "\x81\x00", "\x80\x01", "\x80", "\x81"} {
		i := wire.Read("a" + s)
		i.Num(math.MaxInt)
		if i.Flag() {
			t.Errorf("%x is a flag", s)
		}
		wantInFault(t, s, i, 1)
	}
}

func TestVecIsRead(t *testing.T) {
	for _, v := range vectors() {
		i := wire.Read("\x09" + vec(v...) + "x")
		i.Num(9)
		got := i.Vec()
		if !slices.Equal(got, v) || i.Left() != 1 {
			t.Fatalf("the vector %v is read as %v, %d bytes are left", v, got, i.Left())
		}
		if len(v) == 0 && got != nil {
			t.Fatalf("a vector without counts is no nil")
		}
		for cut := range len(vec(v...)) {
			i := wire.Read("\x09" + vec(v...)[:cut])
			i.Num(9)
			if got := i.Vec(); got != nil {
				t.Fatalf("the vector %v, cut, is read as %v", v, got)
			}
			wantInFault(t, "a vector that is cut", i, 1)
		}
	}
}

func TestWhatIsNoVector(t *testing.T) {
	long := make([]int, api.MaxRegions+1)
	for k := range long {
		long[k] = 1
	}
	for _, s := range []string{
		vec(0), vec(1, 0), vec(0, 0), vec(7, 7, 7, 0), vec(make([]int, api.MaxRegions)...), vec(long...), num(128) + strings.Repeat("\x01", 128),
		vec(maxNum + 1), vec(1, maxNum+1), vec(maxNum+1, 1), vec(greatest), num(greatest), num(greatest) + "\x01",
		"\x81\x00\x01", "\x80\x00", "\x01\x81\x00", "\x02\x81\x00\x01",
	} {
		i := wire.Read("\x0aabcdefghij" + s + "\x01\x01")
		i.Text(10)
		if v := i.Vec(); v != nil {
			t.Fatalf("%x is read as %v", s, v)
		}
		wantInFault(t, s, i, 11)
	}
}

func TestNothingIsReadBehindAFault(t *testing.T) {
	faults := map[string]func(*wire.In){
		"a number above most": func(i *wire.In) { i.Num(0) },
		"a text above most":   func(i *wire.In) { i.Text(0) },
		"no flag":             func(i *wire.In) { i.Flag() },
		"no vector":           func(i *wire.In) { i.Vec() },
	}
	for name, f := range faults {
		i := wire.Read("\x01\x03\x01\x00\x00\x00\x01\x01\x01\x01")
		i.Flag()
		f(i)
		for range 3 {
			if n := i.Num(math.MaxInt); n != 0 {
				t.Errorf("behind %s there is the number %d", name, n)
			}
			if s := i.Text(math.MaxInt); s != "" {
				t.Errorf("behind %s there is the text %q", name, s)
			}
			if i.Flag() {
				t.Errorf("behind %s there is a flag", name)
			}
			if v := i.Vec(); v != nil {
				t.Errorf("behind %s there is the vector %v", name, v)
			}
			wantInFault(t, name, i, 1)
		}
	}
}

func TestEndOfWhatIsLeftIsNoFault(t *testing.T) {
	i := wire.Read("\x05\x02ab\x01")
	wantFault(t, "nothing is read", i.End(), api.ErrForm, 0)
	if n := i.Num(5); n != 5 {
		t.Fatal(n)
	}
	wantFault(t, "a number is read", i.End(), api.ErrForm, 1)
	if s := i.Text(2); s != "ab" || i.Left() != 1 {
		t.Fatal(s, i.Left())
	}
	wantFault(t, "a text is read", i.End(), api.ErrForm, 4)
	if !i.Flag() || i.Left() != 0 || i.End() != nil || i.End() != nil {
		t.Fatal(i.Left(), i.End())
	}
	// Behind the end nothing stands.
	if i.Num(5) != 0 {
		t.Fatal("there is a number behind the end")
	}
	wantInFault(t, "behind the end", i, 5)
}

func TestANilInAndAnEmptyOne(t *testing.T) {
	var none *wire.In
	for range 2 {
		if none.Num(9) != 0 || none.Text(9) != "" || none.Flag() || none.Vec() != nil || none.Left() != 0 {
			t.Error("a nil *In reads something")
		}
		wantFault(t, "a nil *In", none.End(), api.ErrForm, 0)
	}
	for _, read := range []func() *wire.In{func() *wire.In { return wire.Read("") }, func() *wire.In { return new(wire.In) }} {
		if i := read(); i.Left() != 0 || i.End() != nil {
			t.Errorf("of nothing %d bytes are left, %v", i.Left(), i.End())
		}
		for name, f := range map[string]func(i *wire.In) bool{
			"number": func(i *wire.In) bool { return i.Num(9) == 0 },
			"text":   func(i *wire.In) bool { return i.Text(9) == "" },
			"flag":   func(i *wire.In) bool { return !i.Flag() },
			"vector": func(i *wire.In) bool { return i.Vec() == nil },
		} {
			i := read()
			if !f(i) {
				t.Errorf("of nothing there is a %s", name)
			}
			wantInFault(t, name, i, 0)
		}
	}
}

func TestInInEveryOrderOfCalls(t *testing.T) {
	r := rand.New(rand.NewSource(6))
	ended, wrong := 0, 0
	for range 3000 {
		var o wire.Out
		var m model
		for range r.Intn(12) {
			putSomething(r, &o, &m)
		}
		s := m.s
		if len(s) > 0 && r.Intn(3) == 0 { // one byte is another one
			b := []byte(s)
			b[r.Intn(len(b))] = byte(r.Intn(256))
			s = string(b)
		}
		i, at, good := wire.Read(s), 0, true
		for n := 0; good && n < 20; n++ {
			most := mosts()[r.Intn(len(mosts()))]
			if r.Intn(3) > 0 {
				most = math.MaxInt
			}
			switch r.Intn(4) {
			case 0:
				at, good = wantNum(t, i, s, at, most)
			case 1:
				at, good = wantText(t, i, s, at, most)
			case 2:
				at, good = wantFlag(t, i, s, at)
			case 3:
				at, good = wantVec(t, i, s, at)
			}
			wantState(t, i, s, at, good)
			if good && at == len(s) {
				ended++
			}
		}
		if !good {
			wrong++
		}
	}
	if ended < 100 || wrong < 100 {
		t.Errorf("the test is too weak: %d ended, %d wrong", ended, wrong)
	}
}

func TestTextSharesNoMemory(t *testing.T) {
	s := strings.Clone(txt("some text") + txt("other"))
	i := wire.Read(s)
	first := uintptr(unsafe.Pointer(unsafe.StringData(s)))
	for _, want := range []string{"some text", "other"} {
		got := i.Text(100)
		p := uintptr(unsafe.Pointer(unsafe.StringData(got)))
		if got != want || p >= first && p < first+uintptr(len(s)) {
			t.Errorf("the text %q lies in what is read", got)
		}
	}
}

// P5.2.

func TestWhatIsReadWouldBeWrittenSo(t *testing.T) {
	read := map[string]func(i *wire.In, o *wire.Out){
		"number": func(i *wire.In, o *wire.Out) { o.Num(i.Num(math.MaxInt)) },
		"text":   func(i *wire.In, o *wire.Out) { o.Text(i.Text(math.MaxInt)) },
		"flag":   func(i *wire.In, o *wire.Out) { o.Flag(i.Flag()) },
		"vector": func(i *wire.In, o *wire.Out) { o.Vec(i.Vec()) },
	}
	taken := map[string]int{}
	for _, s := range texts() {
		for name, f := range read {
			i := wire.Read(s)
			var o wire.Out
			f(i, &o)
			left := i.Left()
			if left == 0 && i.End() != nil {
				continue
			}
			taken[name]++
			wantDone(t, name, &o, s[:len(s)-left])
		}
	}
	for name := range read {
		if taken[name] < 500 {
			t.Errorf("the test is too weak: of %d texts a %s is read", taken[name], name)
		}
	}
}

func TestWhatIsWrittenIsRead(t *testing.T) {
	for _, n := range numbers() {
		for _, v := range vectors() {
			s := strings.Repeat("z", n&255)
			var o wire.Out
			o.Text(s)
			o.Num(n)
			o.Vec(v)
			o.Flag(n&1 == 1)
			all, err := o.Done()
			if err != nil {
				t.Fatal(err)
			}
			i := wire.Read(all)
			if i.Text(255) != s || i.Num(greatest) != n || !slices.Equal(i.Vec(), v) || i.Flag() != (n&1 == 1) || i.End() != nil {
				t.Fatalf("%d and %v are read otherwise: %v", n, v, i.End())
			}
		}
	}
}
