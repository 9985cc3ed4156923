package reg_test

import (
	"encoding/binary"
	"math"
	"slices"
	"strings"
	"testing"
	"unsafe"

	"sojourn/api"
	"sojourn/reg"
)

const (
	maxNum     = 1 << 40
	maxRegions = 16
)

// dice are numbers below n that look like any others, by a rule.
func dice(seed uint32) func(n int) int {
	return func(n int) int {
		seed = seed*1664525 + 1013904223
		return int(seed>>8) % n
	}
}

// The model: the chapter's own words by the library.

// rank is a text that is greater, byte by byte, the more is above: first the stamp tells, then that it is gone, then the value, then the life.
func rank(c reg.Cell) string {
	b := number(nil, c.Stamp.Time)
	b = number(b, c.Stamp.Region)
	if c.Gone {
		b = append(b, 1)
	} else {
		b = append(b, 0)
	}
	for i := range len(c.Value) {
		b = append(b, 1, c.Value[i])
	}
	// Where the one value ends and the other goes on, that is the greater one.
	b = append(b, 0)
	return string(number(b, c.Life))
}

// number puts a number behind b, the highest byte first; those below 0 come ahead of the others.
func number(b []byte, n int) []byte {
	return binary.BigEndian.AppendUint64(b, uint64(n)+1<<63)
}

// winner is the greatest cell of l by the model; there must be one.
func winner(l []reg.Cell) reg.Cell {
	return slices.MaxFunc(l, func(a, b reg.Cell) int { return strings.Compare(rank(a), rank(b)) })
}

// values are texts in rising order, byte by byte.
func values() []string {
	return []string{
		"", "\x00", "\x00\x00", "\x00a", "\x01", "10", "9", "A", "a", "a\x00", "a\x00b", "aa", "ab", "b", "ba", strings.Repeat("x", 127),
		strings.Repeat("x", 127) + "w", strings.Repeat("x", 128), "\x7f", "\x80", "\xc3\xa9", "\xff", "\xff\xff",
	}
}

// cells are unlike cells, such as writes make and such as none does, in no order.
func cells() []reg.Cell {
	var l []reg.Cell
	lives := []int{5, 0, -1, maxNum, math.MinInt, math.MaxInt}
	for _, time := range []int{3, 0, maxNum, -1, 2, math.MinInt, math.MaxInt} {
		for _, region := range []int{2, 1, 0, 16, -4} {
			for i, v := range values() {
				if i%5 != 0 && (time != 3 || region != 2) {
					continue
				}
				for _, life := range lives {
					s := api.Stamp{Time: time, Region: region}
					l = append(l, reg.Cell{Stamp: s, Value: v, Life: life}, reg.Cell{Stamp: s, Value: v, Gone: true, Life: life})
				}
			}
		}
	}
	return l
}

// some is a cell of few choices, so that like ones and those that differ in one thing alone come often.
func some(throw func(int) int) reg.Cell {
	return reg.Cell{
		Stamp: api.Stamp{Time: throw(3), Region: 1 + throw(2)},
		Value: values()[throw(4)],
		Gone:  throw(2) == 0,
		Life:  throw(3),
	}
}

// pile is n such cells.
func pile(throw func(int) int, n int) []reg.Cell {
	var l []reg.Cell
	for range n {
		l = append(l, some(throw))
	}
	return l
}

// at is the cell of a put at a time of a region.
func at(time, region int) reg.Cell {
	return reg.Cell{Stamp: api.Stamp{Time: time, Region: region}}
}

// P15.1: Of.

func TestOf(t *testing.T) {
	w := api.Write{
		Region: 2, Number: 7, Stamp: api.Stamp{Time: 9, Region: 3}, Deps: api.Vector{1, 6},
		Session: "3-1", Key: "k", Value: "v", Gone: true, Life: 4,
	}
	if got, want := reg.Of(w), (reg.Cell{Stamp: api.Stamp{Time: 9, Region: 3}, Value: "v", Gone: true, Life: 4}); got != want {
		t.Errorf("the cell of %#v is %#v, not %#v", w, got, want)
	}
	if got := reg.Of(api.Write{}); got != (reg.Cell{}) {
		t.Errorf("the cell of the zero write is %#v", got)
	}
	if got := reg.Of(api.Write{Region: 2, Number: 7, Deps: api.Vector{1}, Session: "3-1", Key: "k"}); got != (reg.Cell{}) {
		t.Errorf("a write's region, number, vector, session and key are in its cell: %#v", got)
	}
}

func TestOfTakesEachThingAlone(t *testing.T) {
	for _, c := range []struct {
		w    api.Write
		want reg.Cell
	}{
		{api.Write{Stamp: api.Stamp{Time: 5}}, reg.Cell{Stamp: api.Stamp{Time: 5}}},
		{api.Write{Stamp: api.Stamp{Region: 5}}, reg.Cell{Stamp: api.Stamp{Region: 5}}},
		{api.Write{Value: "x"}, reg.Cell{Value: "x"}},
		{api.Write{Gone: true}, reg.Cell{Gone: true}},
		{api.Write{Life: 5}, reg.Cell{Life: 5}},
	} {
		if got := reg.Of(c.w); got != c.want {
			t.Errorf("the cell of %#v is %#v, not %#v", c.w, got, c.want)
		}
	}
}

func TestOfAllCells(t *testing.T) {
	for _, c := range cells() {
		w := api.Write{Stamp: c.Stamp, Value: c.Value, Gone: c.Gone, Life: c.Life}
		if got := reg.Of(w); got != c {
			t.Fatalf("the cell of %#v is %#v", w, got)
		}
	}
	// What no region takes is a cell's, too: nothing is cut.
	long := strings.Repeat("\x00\xff", 1<<16)
	if got := reg.Of(api.Write{Value: long}); got.Value != long {
		t.Errorf("of a value of %d bytes %d are left", len(long), len(got.Value))
	}
}

// P15.1: Above.

// wantAbove tells in the test if a isn't above b, or b is above a.
func wantAbove(t *testing.T, a, b reg.Cell) {
	t.Helper()
	if !reg.Above(a, b) {
		t.Fatalf("%#v isn't above %#v", a, b)
	}
	if reg.Above(b, a) {
		t.Fatalf("%#v is above %#v", b, a)
	}
}

func TestExample(t *testing.T) {
	put := reg.Of(api.Write{Region: 1, Number: 1, Stamp: api.Stamp{Time: 3, Region: 1}, Session: "1-1", Key: "a", Value: "x"})
	gone := reg.Of(api.Write{Region: 2, Number: 1, Stamp: api.Stamp{Time: 3, Region: 2}, Session: "1-1", Key: "a", Gone: true})
	wantAbove(t, gone, put)
	wantMerge(t, gone, put, gone)
	gone.Stamp.Time = 2
	wantAbove(t, put, gone)
	wantMerge(t, put, put, gone)
}

func TestAboveByOneThing(t *testing.T) {
	base := reg.Cell{Stamp: api.Stamp{Time: 3, Region: 2}, Value: "m", Life: 4}
	for _, c := range []struct {
		what   string
		change func(c *reg.Cell)
	}{
		{"a later time", func(c *reg.Cell) { c.Stamp.Time = 4 }},
		{"a greater region", func(c *reg.Cell) { c.Stamp.Region = 3 }},
		{"that it is gone", func(c *reg.Cell) { c.Gone = true }},
		{"a greater value", func(c *reg.Cell) { c.Value = "n" }},
		{"a longer value", func(c *reg.Cell) { c.Value = "m\x00" }},
		{"a greater life", func(c *reg.Cell) { c.Life = 5 }},
	} {
		other := base
		c.change(&other)
		t.Run(c.what, func(t *testing.T) { wantAbove(t, other, base) })
	}
}

// What is asked first tells, whatever all that comes behind it says.
func TestAboveAsksInOrder(t *testing.T) {
	most := reg.Cell{Stamp: api.Stamp{Time: 9, Region: 9}, Value: "z", Gone: true, Life: 9}
	least := reg.Cell{Stamp: api.Stamp{Time: 1, Region: 1}, Value: "a", Life: 1}
	later, region, gone, value := least, least, least, least
	later.Stamp.Time = 10
	wantAbove(t, later, most)
	region.Stamp = api.Stamp{Time: 9, Region: 10}
	wantAbove(t, region, most)
	gone.Stamp, gone.Gone = most.Stamp, true
	put := most
	put.Gone = false
	wantAbove(t, gone, put)
	value.Stamp, value.Gone, value.Value = most.Stamp, true, "zz"
	wantAbove(t, value, most)
	value.Stamp, value.Gone, value.Value = put.Stamp, false, "zz"
	wantAbove(t, value, put)
}

func TestAboveByValue(t *testing.T) {
	l := values()
	for i, low := range l {
		for _, high := range l[i+1:] {
			for _, gone := range []bool{false, true} {
				a := reg.Cell{Stamp: api.Stamp{Time: 3, Region: 1}, Value: low, Gone: gone, Life: 9}
				b := a
				b.Value, b.Life = high, 0
				wantAbove(t, b, a)
			}
		}
	}
	// Each byte tells by its number, also those that are no letters.
	for low := range 256 {
		for high := low + 1; high < 256; high++ {
			wantAbove(t, reg.Cell{Value: "v" + string([]byte{byte(high)})}, reg.Cell{Value: "v" + string([]byte{byte(low)}) + "\xff"})
		}
	}
}

func TestAboveAtTheEdgesOfNumbers(t *testing.T) {
	l := []int{math.MinInt, math.MinInt + 1, -maxNum, -1, 0, 1, maxNum - 1, maxNum, maxNum + 1, 1 << 62, math.MaxInt - 1, math.MaxInt}
	for i, low := range l {
		for _, high := range l[i+1:] {
			wantAbove(t, at(high, 1), at(low, 16))
			wantAbove(t, at(3, high), at(3, low))
			wantAbove(t, reg.Cell{Life: high}, reg.Cell{Life: low})
		}
	}
}

func TestTheZeroCell(t *testing.T) {
	for _, c := range []reg.Cell{at(1, 0), at(0, 1), {Gone: true}, {Value: "\x00"}, {Life: 1}} {
		wantAbove(t, c, reg.Cell{})
	}
	for _, c := range []reg.Cell{at(-1, 5), at(0, -1), {Life: -1}} {
		wantAbove(t, reg.Cell{}, c)
	}
}

func TestAboveOfAll(t *testing.T) {
	l := cells()
	ranks := make([]string, len(l))
	for i, c := range l {
		ranks[i] = rank(c)
	}
	for i, a := range l {
		for k, b := range l {
			if got, want := reg.Above(a, b), ranks[i] > ranks[k]; got != want {
				t.Fatalf("that %#v is above %#v is %t", a, b, got)
			}
		}
	}
}

func TestOfTwoUnlikeCellsJustOneIsAbove(t *testing.T) {
	throw := dice(3)
	like, unlike := 0, 0
	for range 200000 {
		a, b := some(throw), some(throw)
		one, other := reg.Above(a, b), reg.Above(b, a)
		if a == b {
			like++
			if one || other {
				t.Fatalf("%#v is above itself", a)
			}
			continue
		}
		unlike++
		if one == other {
			t.Fatalf("that one of %#v and %#v is above the other is %t for both", a, b, one)
		}
	}
	if like < 500 || unlike < 500 {
		t.Errorf("the test is too weak: %d, %d", like, unlike)
	}
}

// Like values are like, wherever they stand.
func TestNoCellIsAboveItself(t *testing.T) {
	for _, c := range cells() {
		again := c
		again.Value = string([]byte(c.Value))
		if reg.Above(c, c) || reg.Above(c, again) || reg.Above(again, c) {
			t.Fatalf("%#v is above itself", c)
		}
	}
}

func TestAboveIsAnOrder(t *testing.T) {
	throw := dice(5)
	chains := 0
	for range 300000 {
		a, b, c := some(throw), some(throw), some(throw)
		if reg.Above(a, b) && reg.Above(b, c) {
			chains++
			if !reg.Above(a, c) {
				t.Fatalf("%#v is above %#v, and that above %#v, but not the first above the last", a, b, c)
			}
		}
	}
	if chains < 10000 {
		t.Errorf("the test is too weak: %d", chains)
	}
}

// P15.1: Merge.

// wantMerge tells in the test if Merge of l isn't want.
func wantMerge(t *testing.T, want reg.Cell, l ...reg.Cell) {
	t.Helper()
	if got := reg.Merge(l...); got != want {
		t.Fatalf("Merge of %#v is %#v, not %#v", l, got, want)
	}
}

func TestMergeOfNone(t *testing.T) {
	wantMerge(t, reg.Cell{})
	for _, l := range [][]reg.Cell{nil, {}, cells()[:0]} {
		wantMerge(t, reg.Cell{}, l...)
	}
}

func TestMergeOfOne(t *testing.T) {
	for _, c := range cells() {
		wantMerge(t, c, c)
		wantMerge(t, c, c, c, c)
	}
}

func TestMerge(t *testing.T) {
	put := reg.Cell{Stamp: api.Stamp{Time: 3, Region: 2}, Value: "x", Life: 5}
	for _, c := range []struct {
		want reg.Cell
		l    []reg.Cell
	}{
		{put, []reg.Cell{put, at(3, 1), at(2, 16)}},
		{put, []reg.Cell{at(3, 1), put, at(2, 16)}},
		{put, []reg.Cell{at(2, 16), at(3, 1), put}},
		{put, []reg.Cell{put, {}}},
		{put, []reg.Cell{{}, put}},
		{put, []reg.Cell{put, {Stamp: api.Stamp{Time: 2, Region: 2}, Value: "z", Gone: true, Life: 9}}},
		// It is one of them, whole: nothing is made of two.
		{
			reg.Cell{Stamp: api.Stamp{Time: 4, Region: 1}, Gone: true},
			[]reg.Cell{put, {Stamp: api.Stamp{Time: 4, Region: 1}, Gone: true}, {Stamp: api.Stamp{Time: 4, Region: 1}, Value: "y", Life: 9}},
		},
		// The zero cell counts only where it is one of them.
		{at(-2, 9), []reg.Cell{at(-3, 20), at(-2, 9), at(-2, 8)}},
		{at(0, -1), []reg.Cell{at(0, -1)}},
		{reg.Cell{Life: -1}, []reg.Cell{{Life: -2}, {Life: -1}}},
		{reg.Cell{}, []reg.Cell{at(-1, 1), {}, at(0, -1), {Life: -1}}},
	} {
		wantMerge(t, c.want, c.l...)
	}
}

func TestMergeIsTheOneThatNoneIsAbove(t *testing.T) {
	throw := dice(11)
	all := cells()
	for n := 1; n < 40; n++ {
		for range 100 {
			l := pile(throw, n)
			for i := range l {
				if throw(2) == 0 {
					l[i] = all[throw(len(all))]
				}
			}
			got := reg.Merge(l...)
			if !slices.Contains(l, got) {
				t.Fatalf("Merge of %#v is none of them: %#v", l, got)
			}
			for _, c := range l {
				if rank(c) > rank(got) {
					t.Fatalf("Merge of %#v is %#v, which %#v is above", l, got, c)
				}
			}
		}
	}
	wantMerge(t, winner(all), all...)
}

func TestMergeOfMany(t *testing.T) {
	l := make([]reg.Cell, 1<<20)
	for i := range l {
		l[i] = at(1+i%1000, 1+i%maxRegions)
	}
	for _, place := range []int{0, 1, len(l) / 2, len(l) - 2, len(l) - 1} {
		kept := l[place]
		l[place] = reg.Cell{Stamp: api.Stamp{Time: 1000, Region: 17}, Value: "v"}
		if got := reg.Merge(l...); got != l[place] {
			t.Errorf("Merge of %d cells is %#v, not that of the place %d", len(l), got, place)
		}
		l[place] = kept
	}
}

// P15.1: Visible.

func TestVisible(t *testing.T) {
	for _, c := range []struct {
		cell reg.Cell
		want bool
	}{
		{reg.Cell{}, false},
		{at(1, 1), true},
		{at(1, 0), true},
		{at(1, -5), true},
		{at(0, 1), false},
		{at(0, 16), false},
		{at(-1, 1), false},
		{at(maxNum, 1), true},
		{at(math.MaxInt, 1), true},
		{at(math.MinInt, 1), false},
		{reg.Cell{Stamp: api.Stamp{Time: 1, Region: 1}, Gone: true}, false},
		{reg.Cell{Stamp: api.Stamp{Time: 1, Region: 1}, Gone: true, Value: "v", Life: 5}, false},
		// A value shows also if it is empty, and whatever its life is.
		{reg.Cell{Stamp: api.Stamp{Time: 1, Region: 1}, Life: -1}, true},
		{reg.Cell{Stamp: api.Stamp{Time: 1, Region: 1}, Value: "v", Life: 5}, true},
		{reg.Cell{Value: "v", Life: 5}, false},
		{reg.Cell{Gone: true}, false},
	} {
		if got := reg.Visible(c.cell); got != c.want {
			t.Errorf("that %#v is visible is %t", c.cell, got)
		}
	}
	for _, c := range cells() {
		if got, want := reg.Visible(c), c.Stamp.Time > 0 && !c.Gone; got != want {
			t.Fatalf("that %#v is visible is %t", c, got)
		}
	}
}

// P15.2.

// orders calls see with l in each of its orders.
func orders(l []reg.Cell, from int, see func(l []reg.Cell)) {
	if from == len(l) {
		see(l)
		return
	}
	for i := from; i < len(l); i++ {
		l[from], l[i] = l[i], l[from]
		orders(l, from+1, see)
		l[from], l[i] = l[i], l[from]
	}
}

// oneByOne is the merge of l, one behind the other.
func oneByOne(l []reg.Cell) reg.Cell {
	c := l[0]
	for _, d := range l[1:] {
		c = reg.Merge(c, d)
	}
	return c
}

// backwards is the merge of l, one behind the other from its end on, each new one first.
func backwards(l []reg.Cell) reg.Cell {
	c := l[len(l)-1]
	for i := len(l) - 2; i >= 0; i-- {
		c = reg.Merge(l[i], c)
	}
	return c
}

// inParts is the merge of l, of which some parts are merged first, and parts of these.
func inParts(throw func(int) int, l []reg.Cell) reg.Cell {
	if len(l) < 3 {
		return reg.Merge(l...)
	}
	var parts []reg.Cell
	for len(l) > 0 {
		n := 1 + throw(len(l))
		if n == len(l) && len(parts) == 0 {
			n--
		}
		parts = append(parts, inParts(throw, l[:n]))
		l = l[n:]
	}
	return reg.Merge(parts...)
}

func TestMergeDoesNotHangOnOrder(t *testing.T) {
	throw := dice(17)
	for n := 1; n <= 6; n++ {
		for range 40 {
			l := pile(throw, n)
			want := winner(l)
			orders(slices.Clone(l), 0, func(l []reg.Cell) {
				wantMerge(t, want, l...)
				if got := oneByOne(l); got != want {
					t.Fatalf("one by one the merge of %#v is %#v, not %#v", l, got, want)
				}
			})
		}
	}
}

// Cells that differ in one thing alone, each in its place: the hardest to hold apart.
func TestMergeOfNearCellsInEachOrder(t *testing.T) {
	base := reg.Cell{Stamp: api.Stamp{Time: 3, Region: 2}, Value: "m", Life: 4}
	near := []reg.Cell{base, base, base, base, base, base}
	near[1].Life = 5
	near[2].Value = "n"
	near[3].Gone = true
	near[4].Stamp.Region = 3
	near[5].Stamp.Time = 4
	for n := 1; n <= len(near); n++ {
		orders(slices.Clone(near[:n]), 0, func(l []reg.Cell) {
			wantMerge(t, near[n-1], l...)
			if got := oneByOne(l); got != near[n-1] {
				t.Fatalf("one by one the merge of %#v is %#v, not %#v", l, got, near[n-1])
			}
			if got := backwards(l); got != near[n-1] {
				t.Fatalf("backwards the merge of %#v is %#v, not %#v", l, got, near[n-1])
			}
		})
	}
}

func TestMergeInParts(t *testing.T) {
	throw := dice(23)
	for n := 1; n <= 30; n++ {
		for range 50 {
			l := pile(throw, n)
			want := winner(l)
			wantMerge(t, want, l...)
			for what, got := range map[string]reg.Cell{"one by one": oneByOne(l), "backwards": backwards(l), "in parts": inParts(throw, l)} {
				if got != want {
					t.Fatalf("%s the merge of %#v is %#v, not %#v", what, l, got, want)
				}
			}
		}
	}
}

func TestMergeAgain(t *testing.T) {
	throw := dice(29)
	for n := 1; n <= 20; n++ {
		for range 50 {
			l := pile(throw, n)
			want := reg.Merge(l...)
			twice := append(slices.Clone(l), l...)
			wantMerge(t, want, twice...)
			wantMerge(t, want, want, want)
			// What was merged already comes late, once more.
			c := want
			for range n {
				c = reg.Merge(c, l[throw(n)])
			}
			if c != want {
				t.Fatalf("with some of %#v once more the merge is %#v, not %#v", l, c, want)
			}
			wantMerge(t, want, append(l, want)...)
			wantMerge(t, want, append([]reg.Cell{want}, l...)...)
		}
	}
}

// What the registers of two regions come to that hear the same writes in orders of their own.
func TestRegistersBecomeTheSame(t *testing.T) {
	throw := dice(31)
	for range 500 {
		var l []api.Write
		for i := range 12 {
			c := some(throw)
			l = append(l, api.Write{Region: c.Stamp.Region, Number: i + 1, Stamp: c.Stamp, Session: "1-1", Key: "a", Value: c.Value, Gone: c.Gone, Life: c.Life})
		}
		hear := func() reg.Cell {
			rest := slices.Clone(l)
			at := throw(len(rest))
			c := reg.Of(rest[at])
			for len(rest) > 0 {
				at = throw(len(rest))
				c = reg.Merge(c, reg.Of(rest[at]))
				if throw(3) > 0 { // else it comes once more
					rest = slices.Delete(rest, at, at+1)
				}
			}
			return c
		}
		if one, other := hear(), hear(); one != other {
			t.Fatalf("of %#v one region has %#v, the other %#v", l, one, other)
		}
	}
}

// What is answered shares no memory with what is handed in, and no argument is written into.

// text is the bytes of b, without a copy: whoever changes b changes it.
func text(b []byte) string {
	return unsafe.String(&b[0], len(b))
}

func TestOfSharesNoMemory(t *testing.T) {
	b := []byte("value")
	c := reg.Of(api.Write{Value: text(b)})
	clear(b)
	if c.Value != "value" {
		t.Errorf("the cell shares its value with the write: %q", c.Value)
	}
}

func TestMergeSharesNoMemory(t *testing.T) {
	for n := 1; n <= 3; n++ {
		b := []byte("value")
		l := make([]reg.Cell, n)
		l[n/2] = reg.Cell{Stamp: api.Stamp{Time: 1, Region: 1}, Value: text(b)}
		c := reg.Merge(l...)
		clear(b)
		if c.Value != "value" {
			t.Errorf("the merge of %d cells shares its value with one of them: %q", n, c.Value)
		}
	}
}

func TestNothingIsWrittenInto(t *testing.T) {
	l := cells()
	reg.Merge(l[:len(l)-1]...)
	if !slices.Equal(l, cells()) {
		t.Error("Merge has written into its list")
	}
	w := api.Write{Region: 2, Number: 7, Stamp: api.Stamp{Time: 9, Region: 3}, Deps: api.Vector{1, 6, 0}, Value: "v"}
	reg.Of(w)
	if !slices.Equal(w.Deps, api.Vector{1, 6, 0}) {
		t.Errorf("Of has written into a vector: %#v", w.Deps)
	}
}
