package ring_test

import (
	"crypto/hmac"
	"crypto/sha256"
	"encoding/binary"
	"errors"
	"math"
	"slices"
	"strings"
	"testing"
	"unsafe"

	"sojourn/api"
	"sojourn/fail"
	"sojourn/mac"
	"sojourn/ring"
)

const (
	maxNum  = 1 << 40
	keyLife = 2
)

// some makes n bytes that look like any others, by a rule.
func some(n int, seed uint32) string {
	b := make([]byte, n)
	for i := range b {
		seed = seed*1664525 + 1013904223
		b[i] = byte(seed >> 24)
	}
	return string(b)
}

// masters are masters that a ring may have: of each length, and of any bytes.
func masters() []string {
	l := []string{"m", "\x00", "\xff", "é", " ", strings.Repeat("\x00", 64), strings.Repeat("\xff", 64)}
	for n := 1; n <= 64; n++ {
		l = append(l, some(n, uint32(n)))
	}
	return l
}

// currents are numbers that may be current, those at the edges among them.
func currents() []int {
	return []int{0, 1, 2, 3, 4, 5, 6, 100, 255, 256, 1 << 20, 1 << 32, 1<<32 + 1, maxNum - 3, maxNum - 2, maxNum - 1, maxNum}
}

// wrong are numbers that no key has.
func wrong() []int {
	return []int{-1, -2, -3, -maxNum, math.MinInt, math.MinInt + 1, math.MinInt + 2, maxNum + 1, maxNum + 2, 2 * maxNum, 1 << 62, math.MaxInt - 1, math.MaxInt}
}

// asked are numbers that a ring may be asked for: all about the current one, at the edges, and such as no key has.
func asked(current int) []int {
	l := append(wrong(), currents()...)
	for d := -6; d <= 6; d++ {
		l = append(l, current+d)
	}
	return l
}

// alive tells whether n is alive, in the chapter's own words.
func alive(current, n int) bool {
	first := current - keyLife
	if first < 0 {
		first = 0
	}
	return first <= n && n <= maxNum
}

// key is the key of n in the chapters' own words, by the library.
func key(master string, n int) string {
	h := hmac.New(sha256.New, []byte(master))
	h.Write(binary.BigEndian.AppendUint64([]byte("key"), uint64(n)))
	return string(h.Sum(nil))
}

// wantFault tells in the test if err doesn't wrap c, with the place "ring" and at.
func wantFault(t *testing.T, what string, err error, c api.Code, at int) {
	t.Helper()
	where, got, ok := fail.Place(err)
	if !errors.Is(err, c) || fail.Number(err) != int(c) || where != "ring" || got != at || !ok {
		t.Fatalf("%s: the error is %v (number %d), with the place %q %d, not one of number %d with the place \"ring\" %d", what, err, fail.Number(err), where, got, c, at)
	}
	if l := fail.Trail(err); !slices.Equal(l, []string{"ring"}) {
		t.Fatalf("%s: the trail is %q", what, l)
	}
}

// newRing is a ring that must be one.
func newRing(t *testing.T, master string, current int) *ring.Ring {
	t.Helper()
	r, err := ring.New(master, current)
	if r == nil || err != nil {
		t.Fatalf("New of %x and %d is %v, %v", master, current, r, err)
	}
	return r
}

// wantRing tells in the test if a ring isn't one of this master and current number, by all that can be asked of it.
func wantRing(t *testing.T, what string, r *ring.Ring, master string, current int) {
	t.Helper()
	if got := r.Current(); got != current {
		t.Fatalf("%s: the current number is %d, not %d", what, got, current)
	}
	for _, n := range asked(current) {
		want := alive(current, n)
		if got := r.Alive(n); got != want {
			t.Fatalf("%s: of %d that %d is alive is %t", what, current, n, got)
		}
		k, err := r.Key(n)
		if want {
			if k != key(master, n) || err != nil {
				t.Fatalf("%s: of %d the key of %d is %x, %v, not %x", what, current, n, k, err, key(master, n))
			}
			continue
		}
		if k != "" {
			t.Fatalf("%s: of %d the key of %d, which isn't alive, is %x", what, current, n, k)
		}
		wantFault(t, what+": Key", err, api.ErrCookie, current)
	}
}

// wantRaised tells in the test if Raise of n isn't want.
func wantRaised(t *testing.T, r *ring.Ring, n int, want bool) {
	t.Helper()
	current := r.Current()
	if got := r.Raise(n); got != want {
		t.Fatalf("Raise of %d to %d is %t", current, n, got)
	}
}

// P11.1: the example.

func TestExample(t *testing.T) {
	r := newRing(t, "m", 5)
	for n, want := range map[int]bool{2: false, 3: true, 4: true, 5: true, 6: true} {
		if r.Alive(n) != want {
			t.Errorf("of 5 that %d is alive is %t", n, !want)
		}
		k, err := r.Key(n)
		if want != (err == nil) || want != (k == mac.Derive("m", n)) {
			t.Errorf("of 5 the key of %d is %x, %v", n, k, err)
		}
	}
}

// P11.1: New.

func TestNew(t *testing.T) {
	for _, master := range masters() {
		wantRing(t, "at first", newRing(t, master, 7), master, 7)
	}
	for _, current := range currents() {
		wantRing(t, "at first", newRing(t, "master", current), "master", current)
	}
}

func TestNewRefuses(t *testing.T) {
	refused := func(master string, current int) {
		t.Helper()
		r, err := ring.New(master, current)
		if r != nil {
			t.Fatalf("New of %d bytes and %d is a ring", len(master), current)
		}
		wantFault(t, "New", err, api.ErrArg, 0)
	}
	bad := []string{"", some(65, 1), some(66, 2), some(128, 3), some(256+1, 4), some(1<<16+1, 5), strings.Repeat("\x00", 65), strings.Repeat("é", 33)}
	for _, master := range bad {
		for _, current := range slices.Concat(currents(), wrong()) {
			refused(master, current)
		}
	}
	for _, current := range wrong() {
		refused("m", current)
		refused(some(64, 6), current)
	}
}

// A master is counted in bytes, not in letters.
func TestNewCountsBytes(t *testing.T) {
	wantRing(t, "of 32 letters", newRing(t, strings.Repeat("é", 32), 3), strings.Repeat("é", 32), 3)
	if r, err := ring.New(strings.Repeat("é", 33), 3); r != nil || err == nil {
		t.Errorf("a master of 66 bytes is taken: %v", err)
	}
}

func TestRingsAreTheirOwn(t *testing.T) {
	a, b := newRing(t, "m", 5), newRing(t, "m", 5)
	wantRaised(t, a, 9, true)
	wantRing(t, "the one that was raised", a, "m", 9)
	wantRing(t, "the other one", b, "m", 5)
	c := newRing(t, "n", 9)
	wantRing(t, "of another master", c, "n", 9)
	wantRing(t, "the first one", a, "m", 9)
}

// What New answers shares no memory with its master.
func TestNewCopiesItsMaster(t *testing.T) {
	b := []byte("master")
	r := newRing(t, unsafe.String(&b[0], len(b)), 4)
	b[0] = 'x'
	wantRing(t, "behind a change of the bytes", r, "master", 4)
}

// P11.1: Current, Alive and Key.

// The first number that is alive is the current one less 2, but not below 0; the last one is 2^40.
func TestAliveAtTheEdges(t *testing.T) {
	for _, c := range []struct{ current, first int }{
		{0, 0}, {1, 0}, {2, 0}, {3, 1}, {4, 2}, {5, 3}, {100, 98}, {maxNum - 1, maxNum - 3}, {maxNum, maxNum - 2},
	} {
		r := newRing(t, "m", c.current)
		for n, want := range map[int]bool{c.first - 1: false, c.first: true, c.current: true, maxNum: true, maxNum + 1: false} {
			if got := r.Alive(n); got != want {
				t.Errorf("of %d that %d is alive is %t", c.current, n, got)
			}
			if k, err := r.Key(n); (err == nil) != want || (k != "") != want {
				t.Errorf("of %d the key of %d is %x, %v", c.current, n, k, err)
			}
		}
	}
}

func TestAskingChangesNothing(t *testing.T) {
	for _, current := range currents() {
		r := newRing(t, "m", current)
		for range 3 {
			wantRing(t, "asked again", r, "m", current)
		}
	}
}

// Regions whose rings have one master have one key for a number, whichever is current; all other keys are unlike it.
func TestKeyHangsOnMasterAndNumberAlone(t *testing.T) {
	seen := map[string][2]string{}
	for _, master := range []string{"a", "b", "ab", "ba", some(63, 7), some(64, 8)} {
		for current := range 8 {
			r := newRing(t, master, current)
			for n := max(0, current-keyLife); n < 12; n++ {
				k, err := r.Key(n)
				if len(k) != 32 || err != nil {
					t.Fatalf("of %d the key of %d is %x, %v", current, n, k, err)
				}
				of := [2]string{master, string(rune(n))}
				if was, ok := seen[k]; ok && was != of {
					t.Fatalf("%x is the key of %x and of %x", k, was, of)
				}
				seen[k] = of
			}
		}
	}
	if len(seen) != 6*12 {
		t.Errorf("6 masters have %d keys of 12 numbers", len(seen))
	}
}

// P11.1: Raise.

func TestRaise(t *testing.T) {
	for _, current := range currents() {
		for _, n := range asked(current) {
			r := newRing(t, "m", current)
			if n > current && n <= maxNum {
				wantRaised(t, r, n, true)
				wantRing(t, "raised", r, "m", n)
				wantRaised(t, r, n, false)
				wantRing(t, "raised again", r, "m", n)
				continue
			}
			wantRaised(t, r, n, false)
			wantRing(t, "not raised", r, "m", current)
		}
	}
}

func TestRaiseOneByOne(t *testing.T) {
	r := newRing(t, "m", 0)
	for n := 1; n <= 300; n++ {
		wantRaised(t, r, n, true)
		wantRing(t, "raised", r, "m", n)
	}
}

// A ring that was raised to a number is as one that had it at first.
func TestRaisedIsAsNew(t *testing.T) {
	r := newRing(t, "m", 3)
	for _, n := range []int{4, 5, 9, 1 << 20, maxNum - 1, maxNum} {
		wantRaised(t, r, n, true)
		fresh := newRing(t, "m", n)
		for _, m := range asked(n) {
			a, errA := r.Key(m)
			b, errB := fresh.Key(m)
			if r.Alive(m) != fresh.Alive(m) || a != b || (errA == nil) != (errB == nil) {
				t.Fatalf("of %d the key of %d is %x, %v, not %x, %v", n, m, a, errA, b, errB)
			}
		}
	}
}

func TestRaiseAtTheEnd(t *testing.T) {
	r := newRing(t, "m", maxNum)
	for _, n := range asked(maxNum) {
		wantRaised(t, r, n, false)
	}
	wantRing(t, "at the end", r, "m", maxNum)
}

// Behind four rotations the key that was current is retired; behind two it isn't.
func TestRotations(t *testing.T) {
	r := newRing(t, "m", 1)
	old, err := r.Key(1)
	if err != nil {
		t.Fatal(err)
	}
	for n := 2; n <= 5; n++ {
		wantRaised(t, r, n, true)
		k, err := r.Key(1)
		if n <= 1+keyLife {
			if k != old || err != nil {
				t.Fatalf("of %d the key of 1 is %x, %v, not %x", n, k, err, old)
			}
			continue
		}
		if k != "" {
			t.Fatalf("of %d the key of 1 is %x", n, k)
		}
		wantFault(t, "of a retired number", err, api.ErrCookie, n)
	}
}

// dice are numbers below n that look like any others, by a rule.
func dice(seed uint32) func(n int) int {
	return func(n int) int {
		seed = seed*1664525 + 1013904223
		return int(seed>>8) % n
	}
}

func TestWhatWasRetiredStaysSo(t *testing.T) {
	for seed := range uint32(40) {
		throw := dice(seed)
		current := throw(6)
		r := newRing(t, "m", current)
		retired := map[int]bool{}
		for range 100 {
			for n := range 60 {
				if !r.Alive(n) {
					retired[n] = true
				}
				if retired[n] && (r.Alive(n) || current < n+keyLife+1) {
					t.Fatalf("of %d that %d is alive is %t, and it was retired", current, n, r.Alive(n))
				}
			}
			n := throw(current+4) - 1
			if throw(5) == 0 {
				n = wrong()[throw(len(wrong()))]
			}
			wantRaised(t, r, n, n > current && n <= maxNum)
			current = r.Current()
		}
		wantRing(t, "at the end", r, "m", current)
		if len(retired) == 0 {
			t.Errorf("the test is too weak: of the seed %d none was retired", seed)
		}
	}
}

// P11.1: a nil *Ring.

func TestNoRing(t *testing.T) {
	var r *ring.Ring
	for range 2 {
		if n := r.Current(); n != 0 {
			t.Errorf("no ring has the current number %d", n)
		}
		for _, n := range append(asked(0), asked(maxNum)...) {
			if r.Alive(n) {
				t.Errorf("of no ring %d is alive", n)
			}
			k, err := r.Key(n)
			if k != "" {
				t.Errorf("of no ring the key of %d is %x", n, k)
			}
			wantFault(t, "Key of no ring", err, api.ErrCookie, 0)
			if r.Raise(n) {
				t.Errorf("no ring is raised to %d", n)
			}
		}
	}
}
