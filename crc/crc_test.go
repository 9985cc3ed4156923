package crc_test

import (
	"bytes"
	"hash/crc32"
	"math/bits"
	"slices"
	"strings"
	"testing"

	"sojourn/crc"
)

// divided is the sum of b in the chapter's own words: the bits, noughts behind, the first 32 turned, divided by the polynomial, what is left turned.
func divided(b []byte) uint32 {
	const by = 0x1EDC6F41
	l := make([]byte, 0, 8*len(b)+32)
	for _, c := range b {
		for i := range 8 {
			l = append(l, c>>i&1)
		}
	}
	l = append(l, make([]byte, 32)...)
	for i := range 32 {
		l[i] ^= 1
	}
	var left uint32
	for _, bit := range l {
		top := left >> 31
		left = left<<1 | uint32(bit)
		if top == 1 {
			left ^= by
		}
	}
	return bits.Reverse32(^left)
}

// some makes n bytes that look like any others, by a rule.
func some(n int, seed uint32) []byte {
	b := make([]byte, n)
	for i := range b {
		seed = seed*1664525 + 1013904223
		b[i] = byte(seed >> 24)
	}
	return b
}

// texts are bytes of many lengths and kinds.
func texts() [][]byte {
	l := [][]byte{nil, {}, []byte("123456789"), []byte(strings.Repeat("sojourn", 300))}
	for n := range 70 {
		l = append(l, make([]byte, n), bytes.Repeat([]byte{255}, n), some(n, 1), some(n, 7))
	}
	for i := range 256 {
		l = append(l, []byte{byte(i)}, []byte{0, byte(i)}, []byte{byte(i), 0})
	}
	return append(l, some(1024, 3), some(1025, 4), some(1<<16, 5))
}

// sums are numbers that a sum may be.
func sums() []uint32 {
	l := []uint32{0, 1, 0x80000000, 0xFFFFFFFF, 0x04030201, 0xE3069283, 0x1EDC6F41, 0x82F63B78, 0xFF00FF00}
	for i := range 32 {
		l = append(l, 1<<i, ^uint32(1<<i))
	}
	for s := uint32(1); len(l) < 1000; s = s*1664525 + 1013904223 {
		l = append(l, s)
	}
	return l
}

// behind is four bytes whose sum is s: of bytes whose sum is known the sum is turned back, a byte at a time.
func behind(s uint32) []byte {
	const by = 0x82F63B78
	left := ^s
	for range 32 {
		if left>>31 == 1 {
			left = (left^by)<<1 | 1
		} else {
			left <<= 1
		}
	}
	left = ^left
	return []byte{byte(left), byte(left >> 8), byte(left >> 16), byte(left >> 24)}
}

// P2.1: Sum.

func TestSumOfExamples(t *testing.T) {
	for _, c := range []struct {
		text string
		want uint32
	}{
		{"123456789", 0xE3069283},
		{"", 0},
		{strings.Repeat("\x00", 32), 0x8A9136AA},
		{strings.Repeat("\xff", 32), 0x62A8AB43},
		{"a", 0xC1D04330},
		{"abc", 0x364B3FB7},
	} {
		if s := crc.Sum([]byte(c.text)); s != c.want {
			t.Errorf("the sum of %q is %08X, not %08X", c.text, s, c.want)
		}
	}
	if s := crc.Sum(nil); s != 0 {
		t.Errorf("the sum of nil is %08X", s)
	}
}

func TestSumIsWhatIsLeft(t *testing.T) {
	for _, b := range texts() {
		if s, want := crc.Sum(b), divided(b); s != want {
			t.Fatalf("the sum of %d bytes is %08X, not %08X: %.40x", len(b), s, want, b)
		}
	}
}

func TestSumIsCastagnolis(t *testing.T) {
	table := crc32.MakeTable(crc32.Castagnoli)
	for _, b := range append(texts(), some(1<<20, 9), make([]byte, 1<<20)) {
		if s, want := crc.Sum(b), crc32.Checksum(b, table); s != want {
			t.Fatalf("the sum of %d bytes is %08X, not %08X: %.40x", len(b), s, want, b)
		}
	}
}

func TestSumIsOfTheBytesAlone(t *testing.T) {
	b := some(64, 2)
	was := slices.Clone(b)
	first := crc.Sum(b[8:24])
	if !bytes.Equal(b, was) {
		t.Error("Sum writes into its argument")
	}
	for i := range b {
		if i < 8 || i >= 24 {
			b[i] ^= 0xA5
		}
	}
	if s := crc.Sum(b[8:24]); s != first {
		t.Errorf("the sum hangs on what stands around: %08X, %08X", s, first)
	}
	if s := crc.Sum(b[8:24:24]); s != first {
		t.Errorf("the sum hangs on spare room: %08X, %08X", s, first)
	}
}

// P2.1: Step.

func TestStepIsTheSumWithAByteMore(t *testing.T) {
	for _, b := range texts()[:300] {
		s := crc.Sum(b)
		for c := range 256 {
			want := divided(append(slices.Clone(b), byte(c)))
			if got := crc.Step(s, byte(c)); got != want {
				t.Fatalf("behind %x the byte %02x: %08X, not %08X", b, c, got, want)
			}
		}
	}
}

func TestStepOfEverySum(t *testing.T) {
	for _, s := range sums() {
		b := behind(s)
		if divided(b) != s {
			t.Fatalf("the test is wrong: %x hasn't the sum %08X", b, s)
		}
		if got := crc.Sum(b); got != s {
			t.Fatalf("the sum of %x is %08X, not %08X", b, got, s)
		}
		for c := range 256 {
			want := divided(append(slices.Clone(b), byte(c)))
			if got := crc.Step(s, byte(c)); got != want {
				t.Fatalf("Step of %08X and %02x is %08X, not %08X", s, c, got, want)
			}
		}
	}
}

func TestStepsMakeSum(t *testing.T) {
	for _, b := range texts() {
		var s uint32
		for i, c := range b {
			if i <= 70 && s != crc.Sum(b[:i]) {
				t.Fatalf("behind %d steps of %.40x: %08X", i, b, s)
			}
			s = crc.Step(s, c)
		}
		if want := crc.Sum(b); s != want {
			t.Fatalf("all steps of %.40x make %08X, not %08X", b, s, want)
		}
	}
}

// P2.1: Four and Of.

func TestFourHasTheLowestFirst(t *testing.T) {
	for _, c := range []struct {
		s uint32
		b [4]byte
	}{
		{0, [4]byte{}},
		{1, [4]byte{1, 0, 0, 0}},
		{0x04030201, [4]byte{1, 2, 3, 4}},
		{0xE3069283, [4]byte{0x83, 0x92, 0x06, 0xE3}},
		{0x80000000, [4]byte{0, 0, 0, 0x80}},
		{0xFFFFFFFF, [4]byte{255, 255, 255, 255}},
	} {
		if b := crc.Four(c.s); b != c.b {
			t.Errorf("Four of %08X is %x, not %x", c.s, b, c.b)
		}
		if s := crc.Of(c.b); s != c.s {
			t.Errorf("Of %x is %08X, not %08X", c.b, s, c.s)
		}
	}
}

func TestFourAndOfTurnOneAnotherBack(t *testing.T) {
	for _, s := range sums() {
		b := crc.Four(s)
		if got := crc.Of(b); got != s {
			t.Errorf("Of %x is %08X, not %08X", b, got, s)
		}
		if got := crc.Four(crc.Of(b)); got != b {
			t.Errorf("Four of Of of %x is %x", b, got)
		}
	}
	for i := range 4 {
		for c := range 256 {
			var b [4]byte
			b[i] = byte(c)
			if got := crc.Of(b); got != uint32(c)<<(8*i) {
				t.Errorf("Of %x is %08X", b, got)
			}
		}
	}
}

// P2.2.

// differs tells in the test which other byte at i doesn't change the sum of b.
func differs(t *testing.T, b []byte, i int) {
	t.Helper()
	was, s := b[i], crc.Sum(b)
	seen := map[uint32]byte{}
	for c := range 256 {
		b[i] = byte(c)
		got := crc.Sum(b)
		if (got == s) != (b[i] == was) {
			t.Errorf("of %d bytes, at %d: %02x and %02x have the sums %08X and %08X", len(b), i, was, c, s, got)
		}
		if d, ok := seen[got]; ok {
			t.Errorf("of %d bytes, at %d: %02x and %02x have one sum, %08X", len(b), i, d, c, got)
		}
		seen[got] = byte(c)
	}
	b[i] = was
}

func TestOneByteThatDiffersShows(t *testing.T) {
	for n := 1; n <= 40; n++ {
		for _, b := range [][]byte{make([]byte, n), bytes.Repeat([]byte{255}, n), some(n, uint32(n))} {
			for i := range b {
				differs(t, b, i)
			}
		}
	}
}

func TestOneByteThatDiffersShowsInLongTexts(t *testing.T) {
	for _, b := range [][]byte{some(1024, 1), make([]byte, 4096), some(1<<16, 2)} {
		for _, i := range []int{0, 1, 3, 4, len(b) / 3, len(b) - 5, len(b) - 4, len(b) - 1} {
			differs(t, b, i)
		}
	}
}

func TestOneByteThatDiffersShowsBehindEverySum(t *testing.T) {
	for _, s := range sums() {
		seen := map[uint32]bool{}
		for c := range 256 {
			got := crc.Step(s, byte(c))
			if seen[got] {
				t.Fatalf("behind the sum %08X two bytes make one, %08X", s, got)
			}
			seen[got] = true
		}
	}
	for c := range 256 {
		seen := map[uint32]bool{}
		for _, s := range slices.Compact(slices.Sorted(slices.Values(sums()))) {
			got := crc.Step(s, byte(c))
			if seen[got] {
				t.Fatalf("two sums and the byte %02x make one, %08X", c, got)
			}
			seen[got] = true
		}
	}
}
