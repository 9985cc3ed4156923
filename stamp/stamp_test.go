package stamp_test

import (
	"errors"
	"maps"
	"math"
	"slices"
	"testing"

	"sojourn/api"
	"sojourn/fail"
	"sojourn/stamp"
)

const (
	maxNum     = 1 << 40
	maxRegions = 16
)

// below tells whether a is below b, in the chapter's own words.
func below(a, b api.Stamp) bool {
	return a.Time < b.Time || a.Time == b.Time && a.Region < b.Region
}

// stamps are unlike stamps, of times and regions that a clock may have and of such as it may not, in no order.
func stamps() []api.Stamp {
	var l []api.Stamp
	numbers := []int{3, 0, maxRegions, -1, math.MaxInt, 1, maxNum, -7, 2, maxNum + 1, math.MinInt, 17, math.MinInt + 1, math.MaxInt - 1}
	for _, time := range numbers {
		for _, region := range numbers {
			l = append(l, api.Stamp{Time: time, Region: region})
		}
	}
	return l
}

// wantFault tells in the test if err doesn't wrap c, with the place "stamp" and 0.
func wantFault(t *testing.T, what string, err error, c api.Code) {
	t.Helper()
	where, at, ok := fail.Place(err)
	if !errors.Is(err, c) || fail.Number(err) != int(c) || where != "stamp" || at != 0 || !ok {
		t.Fatalf("%s: the error is %v (number %d), with the place %q %d, not one of number %d", what, err, fail.Number(err), where, at, c)
	}
	if l := fail.Trail(err); !slices.Equal(l, []string{"stamp"}) {
		t.Fatalf("%s: the trail is %q", what, l)
	}
}

// clock is a clock that must be one.
func clock(t *testing.T, region, time int) *stamp.Clock {
	t.Helper()
	c, err := stamp.New(region, time)
	if c == nil || err != nil {
		t.Fatalf("New of %d and %d is %v, %v", region, time, c, err)
	}
	return c
}

// wantTime tells in the test if the clock's time is another one.
func wantTime(t *testing.T, what string, c *stamp.Clock, want int) {
	t.Helper()
	if got := c.Time(); got != want {
		t.Fatalf("%s: the time is %d, not %d", what, got, want)
	}
}

// wantNext tells in the test if the clock's next stamp isn't of this time and region, or its time isn't that behind it.
func wantNext(t *testing.T, c *stamp.Clock, time, region int) {
	t.Helper()
	s, err := c.Next()
	if want := (api.Stamp{Time: time, Region: region}); s != want || err != nil {
		t.Fatalf("Next is %v, %v, not %v", s, err, want)
	}
	wantTime(t, "behind Next", c, time)
}

// wantSeen tells in the test if See of a time isn't taken, or the clock's time isn't want behind it.
func wantSeen(t *testing.T, c *stamp.Clock, time, want int) {
	t.Helper()
	if err := c.See(time); err != nil {
		t.Fatalf("See of %d is %v", time, err)
	}
	wantTime(t, "behind See", c, want)
}

// P7.1: Less.

func TestLess(t *testing.T) {
	for _, c := range []struct {
		a, b api.Stamp
		less bool
	}{
		{api.Stamp{Time: 1, Region: 1}, api.Stamp{Time: 2, Region: 1}, true},
		{api.Stamp{Time: 2, Region: 1}, api.Stamp{Time: 1, Region: 1}, false},
		{api.Stamp{Time: 3, Region: 1}, api.Stamp{Time: 3, Region: 2}, true},
		{api.Stamp{Time: 3, Region: 2}, api.Stamp{Time: 3, Region: 1}, false},
		{api.Stamp{Time: 3, Region: 2}, api.Stamp{Time: 3, Region: 2}, false},
		{api.Stamp{}, api.Stamp{}, false},
		// The time counts ahead of the region.
		{api.Stamp{Time: 1, Region: 16}, api.Stamp{Time: 2, Region: 1}, true},
		{api.Stamp{Time: 2, Region: 1}, api.Stamp{Time: 1, Region: 16}, false},
		{api.Stamp{Time: maxNum - 1, Region: 16}, api.Stamp{Time: maxNum, Region: 1}, true},
		{api.Stamp{Time: 9, Region: 9}, api.Stamp{Time: 10, Region: 1}, true},
		// What no clock has is held against others just so.
		{api.Stamp{Time: -1, Region: 5}, api.Stamp{}, true},
		{api.Stamp{Region: -1}, api.Stamp{}, true},
		{api.Stamp{Time: math.MinInt}, api.Stamp{Time: math.MaxInt}, true},
		{api.Stamp{Time: math.MaxInt}, api.Stamp{Time: math.MinInt}, false},
		{api.Stamp{Region: math.MinInt}, api.Stamp{Region: math.MaxInt}, true},
		{api.Stamp{Region: math.MaxInt}, api.Stamp{Region: math.MinInt}, false},
	} {
		if got := stamp.Less(c.a, c.b); got != c.less {
			t.Errorf("that %v is below %v is %t", c.a, c.b, got)
		}
	}
}

func TestLessOfAll(t *testing.T) {
	for _, a := range stamps() {
		for _, b := range stamps() {
			if got := stamp.Less(a, b); got != below(a, b) {
				t.Fatalf("that %v is below %v is %t", a, b, got)
			}
		}
	}
}

func TestOfTwoUnlikeStampsJustOneIsBelow(t *testing.T) {
	for _, a := range stamps() {
		for _, b := range stamps() {
			one, other := stamp.Less(a, b), stamp.Less(b, a)
			if a == b && (one || other) {
				t.Fatalf("%v is below itself", a)
			}
			if a != b && one == other {
				t.Fatalf("that one of %v and %v is below the other is %t for both", a, b, one)
			}
		}
	}
}

func TestLessIsAnOrder(t *testing.T) {
	var l []api.Stamp
	for time := range 4 {
		for region := range 4 {
			l = append(l, api.Stamp{Time: time - 1, Region: region - 1})
		}
	}
	for _, a := range l {
		for _, b := range l {
			for _, c := range l {
				if stamp.Less(a, b) && stamp.Less(b, c) && !stamp.Less(a, c) {
					t.Fatalf("%v is below %v, and that below %v, but not the first below the last", a, b, c)
				}
			}
		}
	}
}

// P7.1: Greatest.

// wantGreatest tells in the test if Greatest of l isn't want.
func wantGreatest(t *testing.T, want api.Stamp, l ...api.Stamp) {
	t.Helper()
	if got, ok := stamp.Greatest(l...); got != want || !ok {
		t.Fatalf("Greatest of %v is %v, %t, not %v", l, got, ok, want)
	}
}

func TestGreatestOfNone(t *testing.T) {
	for _, l := range [][]api.Stamp{nil, {}, stamps()[:0]} {
		if got, ok := stamp.Greatest(l...); got != (api.Stamp{}) || ok {
			t.Errorf("Greatest of none is %v, %t", got, ok)
		}
	}
	if got, ok := stamp.Greatest(); got != (api.Stamp{}) || ok {
		t.Errorf("Greatest of none is %v, %t", got, ok)
	}
}

func TestGreatest(t *testing.T) {
	for _, c := range []struct {
		want api.Stamp
		l    []api.Stamp
	}{
		{api.Stamp{}, []api.Stamp{{}}},
		{api.Stamp{Time: 3, Region: 2}, []api.Stamp{{Time: 3, Region: 2}, {Time: 3, Region: 1}, {Time: 2, Region: 16}}},
		{api.Stamp{Time: 3, Region: 2}, []api.Stamp{{Time: 3, Region: 1}, {Time: 3, Region: 2}, {Time: 2, Region: 16}}},
		{api.Stamp{Time: 3, Region: 2}, []api.Stamp{{Time: 2, Region: 16}, {Time: 3, Region: 1}, {Time: 3, Region: 2}}},
		{api.Stamp{Time: 7, Region: 7}, []api.Stamp{{Time: 7, Region: 7}, {Time: 1, Region: 1}, {Time: 7, Region: 7}}},
		// The zero stamp counts only where it is one of them.
		{api.Stamp{Time: -2, Region: 9}, []api.Stamp{{Time: -3, Region: 20}, {Time: -2, Region: 9}, {Time: -2, Region: 8}}},
		{api.Stamp{Region: -1}, []api.Stamp{{Region: -1}}},
		{api.Stamp{}, []api.Stamp{{Time: -1, Region: 1}, {}, {Region: -1}}},
		{api.Stamp{Time: math.MinInt, Region: math.MinInt}, []api.Stamp{{Time: math.MinInt, Region: math.MinInt}}},
	} {
		wantGreatest(t, c.want, c.l...)
	}
}

func TestGreatestIsBelowNone(t *testing.T) {
	l := stamps()
	for from := range l {
		for n := 1; n < 12 && from+n <= len(l); n++ {
			some := l[from : from+n]
			got, ok := stamp.Greatest(some...)
			if !ok || !slices.Contains(some, got) {
				t.Fatalf("Greatest of %v is %v, %t", some, got, ok)
			}
			for _, s := range some {
				if below(got, s) {
					t.Fatalf("Greatest of %v is %v, which is below %v", some, got, s)
				}
			}
		}
	}
	wantGreatest(t, api.Stamp{Time: math.MaxInt, Region: math.MaxInt}, l...)
}

func TestGreatestDoesNotHangOnOrder(t *testing.T) {
	all := stamps()
	for _, a := range all {
		for _, b := range all {
			c := all[len(all)/2]
			want, _ := stamp.Greatest(a, b, c)
			wantGreatest(t, want, a, c, b)
			wantGreatest(t, want, b, a, c)
			wantGreatest(t, want, b, c, a)
			wantGreatest(t, want, c, a, b)
			wantGreatest(t, want, c, b, a)
		}
	}
}

func TestGreatestWritesNothing(t *testing.T) {
	l := stamps()
	stamp.Greatest(l[:len(l)-1]...)
	if !slices.Equal(l, stamps()) {
		t.Error("Greatest has written into its list")
	}
}

// P7.1: New.

func TestNew(t *testing.T) {
	for region := 1; region <= maxRegions; region++ {
		for _, time := range []int{0, 1, 5, 1 << 20, maxNum - 1, maxNum} {
			c := clock(t, region, time)
			wantTime(t, "at first", c, time)
			if time < maxNum {
				wantNext(t, c, time+1, region)
			}
		}
	}
}

func TestNewRefuses(t *testing.T) {
	bad := []int{-1, -2, math.MinInt}
	regions := append([]int{0, maxRegions + 1, maxRegions + 2, 1 << 8, 1<<8 + 1, 1<<32 + 1, math.MaxInt}, bad...)
	times := append([]int{maxNum + 1, maxNum + 2, 2 * maxNum, math.MaxInt}, bad...)
	refused := func(region, time int) {
		t.Helper()
		c, err := stamp.New(region, time)
		if c != nil {
			t.Fatalf("New of %d and %d is a clock", region, time)
		}
		wantFault(t, "New", err, api.ErrArg)
	}
	for _, region := range regions {
		refused(region, 0)
		refused(region, 5)
		refused(region, maxNum)
		for _, time := range times {
			refused(region, time)
		}
	}
	for _, time := range times {
		refused(1, time)
		refused(maxRegions, time)
	}
}

func TestClocksAreTheirOwn(t *testing.T) {
	a, b := clock(t, 2, 5), clock(t, 2, 5)
	wantNext(t, a, 6, 2)
	wantSeen(t, a, 9, 9)
	wantTime(t, "of the other clock", b, 5)
	wantNext(t, b, 6, 2)
	wantTime(t, "of the first clock", a, 9)
}

// P7.1: Next, See and Time.

func TestExample(t *testing.T) {
	c := clock(t, 2, 5)
	wantNext(t, c, 6, 2)
	wantSeen(t, c, 9, 9)
	wantNext(t, c, 10, 2)
}

func TestNextIsOneMore(t *testing.T) {
	c := clock(t, 7, 0)
	for time := 1; time <= 1000; time++ {
		wantNext(t, c, time, 7)
	}
}

func TestNextAtTheEnd(t *testing.T) {
	c := clock(t, 3, maxNum-1)
	wantNext(t, c, maxNum, 3)
	for range 3 {
		s, err := c.Next()
		if s != (api.Stamp{}) {
			t.Fatalf("with an error Next is %v", s)
		}
		wantFault(t, "Next", err, api.ErrLong)
		wantTime(t, "behind a refused Next", c, maxNum)
		wantSeen(t, c, maxNum, maxNum)
		wantSeen(t, c, 0, maxNum)
	}
}

func TestNextBehindTheGreatestTimeSeen(t *testing.T) {
	c := clock(t, 16, 4)
	wantSeen(t, c, maxNum, maxNum)
	_, err := c.Next()
	wantFault(t, "Next", err, api.ErrLong)
	c = clock(t, 16, 4)
	wantSeen(t, c, maxNum-1, maxNum-1)
	wantNext(t, c, maxNum, 16)
}

func TestSee(t *testing.T) {
	c := clock(t, 1, 5)
	for _, s := range []struct{ time, want int }{
		{0, 5}, {4, 5}, {5, 5}, {6, 6}, {5, 6}, {6, 6}, {100, 100}, {1, 100}, {maxNum - 1, maxNum - 1}, {0, maxNum - 1}, {maxNum, maxNum}, {7, maxNum},
	} {
		wantSeen(t, c, s.time, s.want)
	}
	c = clock(t, 1, 0)
	wantSeen(t, c, 0, 0)
	wantNext(t, c, 1, 1)
}

func TestSeeRefuses(t *testing.T) {
	for _, at := range []int{0, 5, maxNum} {
		c := clock(t, 4, at)
		for _, time := range []int{-1, -2, math.MinInt, -maxNum, maxNum + 1, maxNum + 2, 2 * maxNum, math.MaxInt} {
			wantFault(t, "See", c.See(time), api.ErrArg)
			wantTime(t, "behind a refused See", c, at)
		}
		if at < maxNum {
			wantNext(t, c, at+1, 4)
		}
	}
}

func TestNoClock(t *testing.T) {
	var c *stamp.Clock
	for range 2 {
		s, err := c.Next()
		if s != (api.Stamp{}) {
			t.Errorf("Next of no clock is %v", s)
		}
		wantFault(t, "Next of no clock", err, api.ErrArg)
		for _, time := range []int{0, 5, maxNum, -1, maxNum + 1} {
			wantFault(t, "See of no clock", c.See(time), api.ErrArg)
		}
		wantTime(t, "of no clock", c, 0)
	}
}

// P7.2.

// dice are numbers below n that look like any others, by a rule.
func dice(seed uint32) func(n int) int {
	return func(n int) int {
		seed = seed*1664525 + 1013904223
		return int(seed>>8) % n
	}
}

func TestEachStampIsAboveAllMadeAndSeen(t *testing.T) {
	for seed := range uint32(50) {
		throw := dice(seed)
		c := clock(t, 1+throw(maxRegions), throw(100))
		var before []api.Stamp
		for range 200 {
			if throw(2) == 0 {
				// A stamp whose time was seen may be of any region, also of one above the clock's own.
				s := api.Stamp{Time: throw(400), Region: 1 + throw(maxRegions)}
				if err := c.See(s.Time); err != nil {
					t.Fatal(err)
				}
				before = append(before, s)
				continue
			}
			s, err := c.Next()
			if err != nil {
				t.Fatal(err)
			}
			for _, b := range before {
				if !stamp.Less(b, s) {
					t.Fatalf("%v isn't above %v, which came ahead of it", s, b)
				}
			}
			before = append(before, s)
		}
	}
}

func TestStampsOfManyClocksAgreeWithWhatCausedWhat(t *testing.T) {
	throw := dice(7)
	type set = map[api.Stamp]bool
	var clocks [maxRegions]*stamp.Clock
	var known [maxRegions]set // all that a clock made or saw, however many hops away
	var last [maxRegions]api.Stamp
	for i := range clocks {
		clocks[i], known[i] = clock(t, i+1, 0), set{}
	}
	causes := map[api.Stamp]set{} // of each stamp what its clock knew when it was made
	for range 2000 {
		i, j := throw(maxRegions), throw(maxRegions)
		if s := last[i]; s.Time > 0 && throw(3) > 0 {
			if err := clocks[j].See(s.Time); err != nil {
				t.Fatal(err)
			}
			maps.Copy(known[j], causes[s])
			known[j][s] = true
			continue
		}
		s, err := clocks[i].Next()
		if err != nil {
			t.Fatal(err)
		}
		if causes[s] != nil {
			t.Fatalf("%v was made twice", s)
		}
		for b := range known[i] {
			if !stamp.Less(b, s) {
				t.Fatalf("%v isn't above %v, which caused it", s, b)
			}
		}
		causes[s] = maps.Clone(known[i])
		known[i][s], last[i] = true, s
	}
	if len(causes) < 500 {
		t.Errorf("the test is too weak: %d stamps were made", len(causes))
	}
}
