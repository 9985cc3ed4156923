package frame_test

import (
	"encoding/binary"
	"errors"
	"hash/crc32"
	"math"
	"slices"
	"strings"
	"testing"

	"sojourn/api"
	"sojourn/crc"
	"sojourn/fail"
	"sojourn/frame"
)

const (
	maxFrame = 8192
	empty    = 21 // the bytes of the frame of the empty payload
)

// castagnoli is the library's table, against which the sums are held.
var castagnoli = crc32.MakeTable(crc32.Castagnoli)

// sum is a sum in four bytes, the lowest first.
func sum(s string) string {
	return string(binary.LittleEndian.AppendUint32(nil, crc32.Checksum([]byte(s), castagnoli)))
}

// rawOf is the raw bytes of a payload, in the chapter's own words: of payloads that are too long, too, as far as two bytes tell a length.
func rawOf(p string) string {
	two := string([]byte{byte(len(p) / 256), byte(len(p) % 256)})
	return two + sum(two) + p + sum(two+p)
}

// framed is raw bytes as they are stored, in the chapter's own words.
func framed(raw string) string {
	b := []byte{1}
	for i := range len(raw) {
		b = append(b, 0x40+raw[i]/16, 0x40+raw[i]%16)
	}
	return string(b)
}

// stands tells of which payload the frame is with which s begins, if it begins with one: each length that has room is tried.
func stands(s string) (string, bool) {
	for n := 0; n <= maxFrame && empty+2*n <= len(s); n++ {
		var b []byte
		for i := range n {
			b = append(b, s[13+2*i]%16*16+s[14+2*i]%16)
		}
		if p := string(b); strings.HasPrefix(s, framed(rawOf(p))) {
			return p, true
		}
	}
	return "", false
}

// some makes n bytes that look like any others, by a rule.
func some(n int, seed uint32) string {
	b := make([]byte, n)
	for i := range b {
		seed = seed*1664525 + 1013904223
		b[i] = byte(seed >> 24)
	}
	return string(b)
}

// payloads are payloads of many lengths and kinds.
func payloads() []string {
	l := []string{"", "sojourn", "\x01", "\x00\x01\x00", "@@@@", "\x01@@@@", "\x00\x00\x00\x00\x00\x00", framed(rawOf("")), framed(rawOf("a frame in a frame"))}
	for i := range 256 {
		l = append(l, string([]byte{byte(i)}))
	}
	for _, n := range []int{2, 3, 5, 15, 16, 17, 31, 63, 64, 127, 128, 255, 256, 257, 511, 512, 1000, 4095, 4096, 4097, 8190, maxFrame - 1, maxFrame} {
		l = append(l, some(n, 1), strings.Repeat("\x00", n), strings.Repeat("\x01", n), strings.Repeat("\xff", n), strings.Repeat("@", n))
	}
	return l
}

// sealed is the frame of a payload that must have one.
func sealed(t *testing.T, p string) string {
	t.Helper()
	s, err := frame.Seal(p)
	if err != nil {
		t.Fatalf("Seal of %d bytes is %v", len(p), err)
	}
	return s
}

// wantFault tells in the test if err doesn't wrap c, with the place "frame" and at.
func wantFault(t *testing.T, what string, err error, c api.Code, at int) {
	t.Helper()
	where, n, ok := fail.Place(err)
	if !errors.Is(err, c) || fail.Number(err) != int(c) || where != "frame" || n != at || !ok {
		t.Fatalf("%s: the error is %v (number %d), with the place %q %d, not one of number %d with the place %d", what, err, fail.Number(err), where, n, c, at)
	}
	if l := fail.Trail(err); !slices.Equal(l, []string{"frame"}) {
		t.Fatalf("%s: the trail is %q", what, l)
	}
}

// wantOpen tells in the test if at a place there isn't the frame of p.
func wantOpen(t *testing.T, s string, at int, p string) {
	t.Helper()
	got, next, err := frame.Open(s, at)
	if want := at + empty + 2*len(p); got != p || next != want || err != nil {
		t.Fatalf("Open at %d of %d bytes is %.40q (%d bytes), %d, %v, not %.40q (%d bytes), %d", at, len(s), got, len(got), next, err, p, len(p), want)
	}
}

// wantNone tells in the test if Open at a place isn't refused with c.
func wantNone(t *testing.T, s string, at int, c api.Code) {
	t.Helper()
	got, next, err := frame.Open(s, at)
	if got != "" || next != at || err == nil {
		t.Fatalf("Open at %d of %.60q (%d bytes) is %.40q, %d, %v: no frame stands there", at, s, len(s), got, next, err)
	}
	wantFault(t, "Open", err, c, at)
}

// wantAsSaid tells in the test if Open at a place isn't what the chapter says.
func wantAsSaid(t *testing.T, s string, at int) {
	t.Helper()
	if at == len(s) {
		wantNone(t, s, at, api.ErrMissing)
		return
	}
	if at < 0 || at > len(s) {
		wantNone(t, s, at, api.ErrForm)
		return
	}
	if p, ok := stands(s[at:]); ok {
		wantOpen(t, s, at, p)
		return
	}
	wantNone(t, s, at, api.ErrForm)
}

// with is s with another byte at a place.
func with(s string, at int, c byte) string {
	b := []byte(s)
	b[at] = c
	return string(b)
}

// P9.1: Seal.

func TestMaxFrame(t *testing.T) {
	if frame.MaxFrame != maxFrame {
		t.Errorf("MaxFrame is %d", frame.MaxFrame)
	}
}

func TestSealOfExamples(t *testing.T) {
	s := sealed(t, "")
	if len(s) != empty || s[:5] != "\x01\x40\x40\x40\x40" {
		t.Errorf("the frame of the empty payload is %x", s)
	}
	for _, c := range []struct{ p, length string }{
		{"", "\x01@@@@"},
		{"a", "\x01@@@A"},
		{some(0x12, 1), "\x01@@AB"},
		{some(0x345, 1), "\x01@CDE"},
		{some(0x1fed, 1), "\x01AONM"},
		{some(maxFrame, 1), "\x01B@@@"},
	} {
		if s := sealed(t, c.p); s[:5] != c.length {
			t.Errorf("the frame of %d bytes begins with %q, not %q", len(c.p), s[:5], c.length)
		}
	}
	if s := sealed(t, "\x12\xab\x00\xff"); s[13:21] != "ABJK@@OO" {
		t.Errorf("the payload stands there as %q", s[13:21])
	}
}

// nibbles is a sum as it is stored.
func nibbles(s uint32) string {
	four := crc.Four(s)
	return framed(string(four[:]))[1:]
}

func TestSealHasTheSums(t *testing.T) {
	for _, p := range payloads() {
		s := sealed(t, p)
		two := []byte{byte(len(p) >> 8), byte(len(p))}
		if got, want := s[5:13], nibbles(crc.Sum(two)); got != want {
			t.Fatalf("the first sum in the frame of %.40q is %q, not %q", p, got, want)
		}
		if got, want := s[len(s)-8:], nibbles(crc.Sum(append(two, p...))); got != want {
			t.Fatalf("the second sum in the frame of %.40q is %q, not %q", p, got, want)
		}
	}
}

func TestSealIsTheFrame(t *testing.T) {
	for _, p := range payloads() {
		if s, want := sealed(t, p), framed(rawOf(p)); s != want {
			t.Fatalf("the frame of %.40q (%d bytes) is %.80x, not %.80x", p, len(p), s, want)
		}
	}
	for n := range 600 {
		p := some(n, uint32(n))
		if s, want := sealed(t, p), framed(rawOf(p)); s != want {
			t.Fatalf("the frame of %d bytes is %.80x, not %.80x", n, s, want)
		}
	}
}

func TestSealHasOneAtItsBeginningAlone(t *testing.T) {
	for _, p := range payloads() {
		s := sealed(t, p)
		if len(s) != empty+2*len(p) || s[0] != 1 {
			t.Fatalf("the frame of %.40q has %d bytes, the first one %02x", p, len(s), s[0])
		}
		for i := 1; i < len(s); i++ {
			if s[i] < 0x40 || s[i] > 0x4f {
				t.Fatalf("in the frame of %.40q there stands %02x at %d", p, s[i], i)
			}
		}
	}
}

func TestSealRefuses(t *testing.T) {
	for _, n := range []int{maxFrame + 1, maxFrame + 2, 2 * maxFrame, 1<<16 - 1, 1 << 16, 1<<16 + 1, 1<<16 + 5, 1 << 20} {
		s, err := frame.Seal(some(n, 1))
		if s != "" {
			t.Errorf("with an error Seal of %d bytes is %.40q", n, s)
		}
		wantFault(t, "Seal", err, api.ErrLong, n)
	}
}

// P9.1: Open.

func TestOpenOfSealIsThePayload(t *testing.T) {
	for _, p := range payloads() {
		wantOpen(t, sealed(t, p), 0, p)
	}
	for n := range 600 {
		p := some(n, uint32(n)+3)
		wantOpen(t, sealed(t, p), 0, p)
	}
}

func TestOpenBehindAndAheadOfAnything(t *testing.T) {
	beside := []string{"", "\x00", "\x01", "@", "@@@@@@@@", "\x01@@@@", "x\x00\x01\xff", sealed(t, ""), sealed(t, "beside")[:30], some(100, 4)}
	for _, p := range []string{"", "p", "payload", some(300, 5), some(maxFrame, 6)} {
		for _, a := range beside {
			for _, b := range beside {
				wantOpen(t, a+sealed(t, p)+b, len(a), p)
			}
		}
	}
}

func TestOpenOneBehindTheOther(t *testing.T) {
	var b strings.Builder
	l := payloads()
	for _, p := range l {
		b.WriteString(sealed(t, p))
	}
	s, at := b.String(), 0
	for _, p := range l {
		wantOpen(t, s, at, p)
		_, at, _ = frame.Open(s, at)
	}
	wantNone(t, s, at, api.ErrMissing)
}

func TestOpenAtTheEnd(t *testing.T) {
	for _, s := range []string{"", "x", "\x01", sealed(t, ""), sealed(t, "p") + "\x00\x00", some(5000, 1)} {
		wantNone(t, s, len(s), api.ErrMissing)
	}
}

func TestOpenOutside(t *testing.T) {
	for _, s := range []string{"", "x", sealed(t, ""), sealed(t, "p") + sealed(t, "q")} {
		for _, at := range []int{-1, -2, -21, math.MinInt, math.MinInt + 1, len(s) + 1, len(s) + 2, len(s) + 21, 1 << 32, math.MaxInt - 1, math.MaxInt} {
			wantNone(t, s, at, api.ErrForm)
		}
	}
}

func TestOpenWhereNoneStands(t *testing.T) {
	s := "x" + sealed(t, "payload") + sealed(t, "") + "@"
	for at := range len(s) {
		if at != 1 && at != 1+empty+14 {
			wantNone(t, s, at, api.ErrForm)
		}
	}
	for _, s := range []string{"\x01", "\x00", "@", "\x01@", "\x01@@@@", "\x01@@@@@@@@@@@@@@@@@@@@", strings.Repeat("\x01", 100), strings.Repeat("\x00", 100), strings.Repeat("@", 100), "payload", some(9000, 8)} {
		wantNone(t, s, 0, api.ErrForm)
	}
}

func TestOpenRefusesWhatIsTooLong(t *testing.T) {
	for _, n := range []int{maxFrame + 1, maxFrame + 2, 10000, 1 << 14, 1<<16 - 1} {
		s := framed(rawOf(some(n, 2)))
		wantNone(t, s, 0, api.ErrForm)
		wantNone(t, s+s, 0, api.ErrForm)
	}
	p := some(maxFrame, 2)
	wantOpen(t, framed(rawOf(p)), 0, p)
}

func TestOpenAsksBothSums(t *testing.T) {
	p := "payload"
	two := "\x00\x07"
	wantOpen(t, framed(two+sum(two)+p+sum(two+p)), 0, p)
	for _, raw := range []string{
		two + sum(two) + p + sum(p),
		two + sum(two) + p + sum(two+sum(two)+p),
		two + sum(two) + p + sum(two),
		two + sum(two) + p + sum(""),
		two + sum(two) + p + sum("\x07\x00"+p),
		two + sum("\x07\x00") + p + sum(two+p),
		two + sum("") + p + sum(two+p),
		two + sum(two+p) + p + sum(two+p),
		"\x07\x00" + sum("\x07\x00") + p + sum("\x07\x00"+p),
		"\x00\x06" + sum("\x00\x06") + p + sum("\x00\x06"+p),
		"\x00\x08" + sum("\x00\x08") + p + sum("\x00\x08"+p),
	} {
		wantNone(t, framed(raw), 0, api.ErrForm)
		wantNone(t, framed(raw)+sealed(t, p), 0, api.ErrForm)
	}
}

func TestOpenOfAnyText(t *testing.T) {
	var seed uint32 = 11
	next := func(n int) int {
		seed = seed*1664525 + 1013904223
		return int(seed>>8) % n
	}
	bytes := []byte{0, 1, 0x3f, 0x40, 0x41, 0x4f, 0x50, 0x42}
	for range 3000 {
		b := []byte(some(next(8), seed))
		for range next(4) {
			b = append(b, sealed(t, some(next(12), seed))...)
			b = append(b, some(next(3), seed)...)
		}
		for range next(3) {
			if len(b) > 0 {
				b[next(len(b))] = bytes[next(len(bytes))]
			}
		}
		b = b[:len(b)-next(min(len(b), 9)+1)]
		for at := -2; at <= len(b)+2; at++ {
			wantAsSaid(t, string(b), at)
		}
	}
}

// P9.1: Find.

// wantFind tells in the test if Find isn't the first place, from a place on, at which a byte 01 stands.
func wantFind(t *testing.T, s string, from int) {
	t.Helper()
	want := -1
	for i := range len(s) {
		if i >= from && s[i] == 1 {
			want = i
			break
		}
	}
	if got := frame.Find(s, from); got != want {
		t.Fatalf("Find in %.60q (%d bytes) from %d is %d, not %d", s, len(s), from, got, want)
	}
}

func TestFind(t *testing.T) {
	l := []string{"", "\x01", "\x00", "\x01\x01", "\x02\x01", "\x01\x02", "\x81\x11\x10", "x\x01y\x01\x01z", "\xc4\x81\x01", strings.Repeat("x", 300) + "\x01", some(2000, 9), sealed(t, ""), sealed(t, "\x01") + sealed(t, "\x01\x01"), framed("")}
	for _, s := range l {
		for from := -3; from <= len(s)+3; from++ {
			wantFind(t, s, from)
		}
		for _, from := range []int{math.MinInt, math.MinInt + 1, -1 << 32, 1 << 32, math.MaxInt - 1, math.MaxInt} {
			wantFind(t, s, from)
		}
	}
}

func TestFindTellsEachFrame(t *testing.T) {
	var b strings.Builder
	var places []int
	for _, p := range payloads() {
		b.WriteString("\x00@\xff")
		places = append(places, b.Len())
		b.WriteString(sealed(t, p))
	}
	at := -1
	for _, want := range places {
		if at = frame.Find(b.String(), at+1); at != want {
			t.Fatalf("Find is %d, not %d", at, want)
		}
	}
	if at = frame.Find(b.String(), at+1); at != -1 {
		t.Errorf("behind all frames Find is %d", at)
	}
}

// P9.2.

// behind is what may stand behind a frame that isn't whole.
func behind(t *testing.T) []string {
	return []string{"", sealed(t, "") + strings.Repeat("@", 600), strings.Repeat("@", 600)}
}

func TestOneByteThatIsAnother(t *testing.T) {
	for _, p := range []string{"", "p", "\x00", "\xff\xff", "payload", some(40, 1), some(300, 2)} {
		s := sealed(t, p)
		for _, rest := range behind(t) {
			for at := range len(s) {
				for by := 1; by < 256; by++ {
					wantNone(t, with(s, at, s[at]^byte(by))+rest, 0, api.ErrForm)
				}
			}
		}
	}
	s := sealed(t, some(maxFrame, 3))
	for at := range len(s) {
		if at < 30 || at > len(s)-30 || at%97 == 0 {
			for by := 1; by < 16; by++ {
				wantNone(t, with(s, at, s[at]^byte(by)), 0, api.ErrForm)
			}
		}
	}
}

func TestAnyBytesThatAreNoughtInTheShortestFrame(t *testing.T) {
	s := sealed(t, "")
	for which := 1; which < 1<<empty; which++ {
		b := []byte(s)
		for i := range b {
			if which>>i&1 == 1 {
				b[i] = 0
			}
		}
		if got, next, err := frame.Open(string(b), 0); got != "" || next != 0 || !errors.Is(err, api.ErrForm) {
			t.Fatalf("%x is a frame: %q, %d, %v", b, got, next, err)
		}
	}
}

func TestAnyBytesThatAreNought(t *testing.T) {
	for _, p := range []string{"p", "\x00", "payload", some(40, 1), some(300, 2)} {
		s := sealed(t, p)
		for from := range len(s) {
			b := []byte(s)
			for to := from; to < len(s); to++ {
				b[to] = 0
				wantNone(t, string(b), 0, api.ErrForm)
			}
		}
		for seed := range uint32(300) {
			b := []byte(s)
			mask := some(len(s), seed)
			for i := range b {
				if mask[i]&7 == 0 {
					b[i] = 0
				}
			}
			if string(b) != s {
				wantNone(t, string(b), 0, api.ErrForm)
			}
		}
	}
}

func TestWhatIsCut(t *testing.T) {
	for _, p := range []string{"", "p", "\x00", "payload", some(40, 1), some(300, 2), some(maxFrame, 3)} {
		s := sealed(t, p)
		for n := 1; n < len(s); n++ {
			wantNone(t, s[:n], 0, api.ErrForm)
			wantNone(t, s[n:], 0, api.ErrForm)
			wantNone(t, "x"+s[:n], 1, api.ErrForm)
		}
		wantNone(t, s[:0], 0, api.ErrMissing)
	}
}

func TestWhatIsCutWithOthersBehind(t *testing.T) {
	for _, p := range []string{"", "p", "payload", some(40, 1)} {
		s := sealed(t, p)
		for _, rest := range []string{"\x00\x00\x00", s, sealed(t, "another one")} {
			for n := 1; n < len(s); n++ {
				wantNone(t, s[:n]+rest, 0, api.ErrForm)
				wantNone(t, s[n:]+rest, 0, api.ErrForm)
			}
		}
	}
}
