package vec_test

import (
	"fmt"
	"math"
	"slices"
	"testing"

	"sojourn/api"
	"sojourn/vec"
)

// width is more regions than any vector of these tests has counts.
const width = 64

// counts are a vector in the chapter's own words: of each region from 1 on a count, behind its end 0.
type counts [width]int

// of is the counts of v.
func of(v api.Vector) counts {
	var c counts
	for i := range v {
		c[i] = v[i]
	}
	return c
}

// trimmed is the vector with the counts c that has no noughts at its end.
func (c counts) trimmed() api.Vector {
	var v api.Vector
	for i, n := range c {
		if n != 0 {
			v = append(v, c[len(v):i+1]...)
		}
	}
	return v
}

// greatest and least are of each region the greatest and the least of its counts in l; of no vectors nothing.
func greatest(l ...api.Vector) counts { return picked(l, slices.Max[[]int]) }
func least(l ...api.Vector) counts    { return picked(l, slices.Min[[]int]) }

// picked is of each region the one that pick takes of its counts in l.
func picked(l []api.Vector, pick func(all []int) int) counts {
	var c counts
	if len(l) == 0 {
		return c
	}
	for i := range c {
		var all []int
		for _, v := range l {
			all = append(all, of(v)[i])
		}
		c[i] = pick(all)
	}
	return c
}

// covers tells whether no count of a is less.
func covers(a, b api.Vector) bool {
	x, y := of(a), of(b)
	for i := range x {
		if x[i] < y[i] {
			return false
		}
	}
	return true
}

// small are all vectors of up to n counts, each one of l.
func small(n int, l ...int) []api.Vector {
	all := []api.Vector{nil}
	for from := 0; n > 0; n-- {
		to := len(all)
		for _, v := range all[from:to] {
			for _, c := range l {
				all = append(all, append(slices.Clone(v), c))
			}
		}
		from = to
	}
	return all
}

// some is a vector of n counts that look like any others, by a rule, many of them noughts.
func some(n int, seed uint32) api.Vector {
	var v api.Vector
	for range n {
		seed = seed*1664525 + 1013904223
		c := int(seed>>24) - 100
		if seed>>16&3 == 0 {
			c = 0
		}
		v = append(v, c)
	}
	return v
}

// vectors are vectors of many lengths and kinds: also such as aren't trimmed, have counts below 0, or more than there are regions.
func vectors() []api.Vector {
	l := small(3, -1, 0, 2)
	for n := range 20 {
		l = append(l, some(n, uint32(n)), make(api.Vector, n))
	}
	return append(l,
		api.Vector{},
		api.Vector{math.MaxInt},
		api.Vector{math.MinInt, 0, math.MaxInt},
		api.Vector{0, math.MinInt},
		api.Vector{api.MaxNum, api.MaxNum + 1, 0},
		append(make(api.Vector, 15), 1),
		append(make(api.Vector, 16), 1),
		append(make(api.Vector, 15), 1, 0, 0),
		append(make(api.Vector, 40), -1),
		some(50, 1),
		append(some(50, 2), 0, 0),
	)
}

// want tells in the test if v isn't, count by count, w.
func want(t *testing.T, v, w api.Vector, call string, args ...any) {
	t.Helper()
	if !slices.Equal(v, w) {
		t.Fatalf("%s is %v, not %v", fmt.Sprintf(call, args...), v, w)
	}
}

// wantNew tells in the test if what f answers of vectors hangs together with them, or if f writes into one of them.
func wantNew(t *testing.T, name string, f func(l ...api.Vector) api.Vector, l ...api.Vector) {
	t.Helper()
	var kept, given []api.Vector
	for _, v := range l {
		// Behind the end of what is given there is room, in which nobody may write either.
		full := append(slices.Clone(v), 77, 77, 77)
		kept = append(kept, slices.Clone(full))
		given = append(given, full[:len(v)])
	}
	same := func(when string) {
		t.Helper()
		for i, v := range given {
			if full := v[:len(v)+3]; len(v) != len(l[i]) || !slices.Equal(full, kept[i]) {
				t.Fatalf("%s of %v, %s: %v is %v", name, l, when, kept[i], full)
			}
		}
	}
	got := f(given...)
	same("called")
	again := slices.Clone(got)
	for i := range got {
		got[i]++
	}
	_ = append(got, 55, 55, 55)
	same("its answer written into")
	want(t, f(given...), again, "%s of %v, its answer written into,", name, l)
	got = f(given...)
	for _, v := range given {
		for i := range v {
			v[i] += 1000
		}
	}
	want(t, got, again, "%s of %v, that written into,", name, l)
}

// P6.1: At.

func TestAt(t *testing.T) {
	v := api.Vector{4, 0, -7, math.MaxInt, math.MinInt}
	for _, c := range []struct {
		v    api.Vector
		r    int
		want int
	}{
		{v, 1, 4}, {v, 2, 0}, {v, 3, -7}, {v, 4, math.MaxInt}, {v, 5, math.MinInt},
		{v, 6, 0}, {v, 16, 0}, {v, 17, 0}, {v, math.MaxInt, 0},
		{v, 0, 0}, {v, -1, 0}, {v, -5, 0}, {v, math.MinInt, 0},
		{nil, 0, 0}, {nil, 1, 0}, {nil, -1, 0}, {api.Vector{}, 1, 0},
		{api.Vector{9, 0, 0}, 3, 0}, {api.Vector{9, 0, 0}, 4, 0},
	} {
		if n := vec.At(c.v, c.r); n != c.want {
			t.Errorf("the count of %d in %v is %d, not %d", c.r, c.v, n, c.want)
		}
	}
}

func TestAtOfAllRegions(t *testing.T) {
	for _, v := range vectors() {
		for r := -3; r <= width; r++ {
			n := 0
			if r > 0 {
				n = of(v)[r-1]
			}
			if got := vec.At(v, r); got != n {
				t.Fatalf("the count of %d in %v is %d, not %d", r, v, got, n)
			}
		}
	}
}

func TestAtBehindMaxRegions(t *testing.T) {
	v := append(make(api.Vector, api.MaxRegions), 5, 6)
	if a, b := vec.At(v, api.MaxRegions+1), vec.At(v, api.MaxRegions+2); a != 5 || b != 6 {
		t.Errorf("the counts behind MaxRegions are %d, %d", a, b)
	}
}

// P6.1: Trim.

func TestTrim(t *testing.T) {
	for _, c := range []struct{ v, want api.Vector }{
		{nil, nil},
		{api.Vector{}, nil},
		{api.Vector{0}, nil},
		{api.Vector{0, 0, 0}, nil},
		{api.Vector{1}, api.Vector{1}},
		{api.Vector{1, 0}, api.Vector{1}},
		{api.Vector{0, 1}, api.Vector{0, 1}},
		{api.Vector{0, 1, 0}, api.Vector{0, 1}},
		{api.Vector{1, 0, 2, 0, 0}, api.Vector{1, 0, 2}},
		{api.Vector{0, -1}, api.Vector{0, -1}},
		{api.Vector{0, -1, 0}, api.Vector{0, -1}},
		{api.Vector{math.MinInt, math.MaxInt, 0}, api.Vector{math.MinInt, math.MaxInt}},
		{make(api.Vector, 40), nil},
		{append(make(api.Vector, 20), 3, 0), append(make(api.Vector, 20), 3)},
	} {
		want(t, vec.Trim(c.v), c.want, "%v, trimmed,", c.v)
	}
	for _, v := range vectors() {
		want(t, vec.Trim(v), of(v).trimmed(), "%v, trimmed,", v)
		want(t, vec.Trim(vec.Trim(v)), of(v).trimmed(), "%v, trimmed twice,", v)
	}
}

// P6.1: With.

func TestWith(t *testing.T) {
	for _, c := range []struct {
		v    api.Vector
		r, n int
		want api.Vector
	}{
		{nil, 1, 5, api.Vector{5}},
		{nil, 3, 5, api.Vector{0, 0, 5}},
		{nil, 3, 0, nil},
		{nil, 3, -5, api.Vector{0, 0, -5}},
		{nil, 16, 1, append(make(api.Vector, 15), 1)},
		{nil, 17, 1, nil},
		{api.Vector{1, 2, 3}, 1, 7, api.Vector{7, 2, 3}},
		{api.Vector{1, 2, 3}, 2, 7, api.Vector{1, 7, 3}},
		{api.Vector{1, 2, 3}, 3, 7, api.Vector{1, 2, 7}},
		{api.Vector{1, 2, 3}, 4, 7, api.Vector{1, 2, 3, 7}},
		{api.Vector{1, 2, 3}, 6, 7, api.Vector{1, 2, 3, 0, 0, 7}},
		{api.Vector{1, 2, 3}, 2, 1, api.Vector{1, 1, 3}},
		{api.Vector{1, 2, 3}, 2, 0, api.Vector{1, 0, 3}},
		{api.Vector{1, 0, 3}, 3, 0, api.Vector{1}},
		{api.Vector{0, 0, 3}, 3, 0, nil},
		{api.Vector{1, 2, 3}, 9, 0, api.Vector{1, 2, 3}},
		{api.Vector{1, 0, 0}, 1, 4, api.Vector{4}},
		{api.Vector{1, 0, 0}, 2, 4, api.Vector{1, 4}},
		{api.Vector{1}, 2, math.MaxInt, api.Vector{1, math.MaxInt}},
		{api.Vector{1}, 1, math.MinInt, api.Vector{math.MinInt}},
		{append(make(api.Vector, 17), 9), 2, 4, append(api.Vector{0, 4}, append(make(api.Vector, 15), 9)...)},
		{append(make(api.Vector, 16), 9, 0), 16, 4, append(make(api.Vector, 15), 4, 9)},
	} {
		want(t, vec.With(c.v, c.r, c.n), c.want, "%v with %d for %d", c.v, c.n, c.r)
	}
}

func TestWithOfNoRegion(t *testing.T) {
	for _, v := range vectors() {
		for _, r := range []int{0, -1, -16, math.MinInt, 17, 18, 41, 1 << 40, math.MaxInt} {
			for _, n := range []int{0, 1, -1, math.MaxInt} {
				want(t, vec.With(v, r, n), of(v).trimmed(), "%v with %d for %d", v, n, r)
			}
		}
	}
}

func TestWithOfAllRegions(t *testing.T) {
	for _, v := range vectors() {
		for r := 1; r <= api.MaxRegions; r++ {
			for _, n := range []int{0, 1, -1, 7, api.MaxNum, math.MaxInt, math.MinInt} {
				c := of(v)
				c[r-1] = n
				w := vec.With(v, r, n)
				want(t, w, c.trimmed(), "%v with %d for %d", v, n, r)
				if got := vec.At(w, r); got != n {
					t.Fatalf("of %v with %d for %d the count is %d", v, n, r, got)
				}
			}
		}
	}
}

// P6.1: Join and Least.

func TestJoinAndLeast(t *testing.T) {
	for _, c := range []struct {
		l           []api.Vector
		join, least api.Vector
	}{
		{nil, nil, nil},
		{[]api.Vector{nil}, nil, nil},
		{[]api.Vector{nil, {}, {0, 0}}, nil, nil},
		{[]api.Vector{{1, 0, 2}, {0, 5}}, api.Vector{1, 5, 2}, nil},
		{[]api.Vector{{3, 0, 4, 0}}, api.Vector{3, 0, 4}, api.Vector{3, 0, 4}},
		{[]api.Vector{{3, 1, 4}, {2, 7, 4}}, api.Vector{3, 7, 4}, api.Vector{2, 1, 4}},
		{[]api.Vector{{3, 1, 4}, {2, 7, 4}, {5}}, api.Vector{5, 7, 4}, api.Vector{2}},
		{[]api.Vector{{5}, {3, 1, 4}, {2, 7, 4}}, api.Vector{5, 7, 4}, api.Vector{2}},
		{[]api.Vector{{3, 1, 4}, nil, {2, 7}}, api.Vector{3, 7, 4}, nil},
		{[]api.Vector{nil, {1, 2}}, api.Vector{1, 2}, nil},
		// Behind a vector's end the counts are 0, which may be the greatest or the least.
		{[]api.Vector{{-1}}, api.Vector{-1}, api.Vector{-1}},
		{[]api.Vector{{-1}, nil}, nil, api.Vector{-1}},
		{[]api.Vector{nil, {-1}}, nil, api.Vector{-1}},
		{[]api.Vector{{-3, -2}, {-1}}, api.Vector{-1}, api.Vector{-3, -2}},
		{[]api.Vector{{-3, -2}, {-4, -1}}, api.Vector{-3, -1}, api.Vector{-4, -2}},
		{[]api.Vector{{2}, {1, 0, 0, -5}, {3, 4}}, api.Vector{3, 4}, api.Vector{1, 0, 0, -5}},
		{
			[]api.Vector{{math.MaxInt, math.MinInt}, {math.MinInt, math.MaxInt}},
			api.Vector{math.MaxInt, math.MaxInt},
			api.Vector{math.MinInt, math.MinInt},
		},
		// A vector may have more counts than there may be regions.
		{
			[]api.Vector{append(make(api.Vector, 16), 2), {1}},
			append(append(api.Vector{1}, make(api.Vector, 15)...), 2),
			nil,
		},
		{
			[]api.Vector{append(make(api.Vector, 16), 2), append(make(api.Vector, 16), 1)},
			append(make(api.Vector, 16), 2),
			append(make(api.Vector, 16), 1),
		},
	} {
		want(t, vec.Join(c.l...), c.join, "Join of %v", c.l)
		want(t, vec.Least(c.l...), c.least, "Least of %v", c.l)
	}
}

func TestJoinAndLeastOfNoVectors(t *testing.T) {
	want(t, vec.Join(), nil, "Join of no vectors")
	want(t, vec.Least(), nil, "Least of no vectors")
}

func TestJoinAndLeastOfAll(t *testing.T) {
	l := vectors()
	for _, a := range l {
		want(t, vec.Join(a), of(a).trimmed(), "Join of %v alone", a)
		want(t, vec.Least(a), of(a).trimmed(), "Least of %v alone", a)
		for _, b := range l {
			want(t, vec.Join(a, b), greatest(a, b).trimmed(), "Join of %v and %v", a, b)
			want(t, vec.Least(a, b), least(a, b).trimmed(), "Least of %v and %v", a, b)
		}
	}
	for i := range l {
		for n := range 6 {
			some := append(slices.Clone(l[i:min(len(l), i+n)]), l[:n]...)
			want(t, vec.Join(some...), greatest(some...).trimmed(), "Join of %v", some)
			want(t, vec.Least(some...), least(some...).trimmed(), "Least of %v", some)
		}
	}
	want(t, vec.Join(l...), greatest(l...).trimmed(), "Join of all")
	want(t, vec.Least(l...), least(l...).trimmed(), "Least of all")
}

func TestJoinAndLeastOfThree(t *testing.T) {
	l := small(2, -1, 0, 1)
	for _, a := range l {
		for _, b := range l {
			for _, c := range l {
				want(t, vec.Join(a, b, c), greatest(a, b, c).trimmed(), "Join of %v, %v and %v", a, b, c)
				want(t, vec.Least(a, b, c), least(a, b, c).trimmed(), "Least of %v, %v and %v", a, b, c)
			}
		}
	}
}

// A call must end even where each of many vectors would be held against a very long one.
func TestJoinAndLeastOfVeryMany(t *testing.T) {
	const n = 1 << 19
	long := make(api.Vector, n)
	for i := range long {
		long[i] = i - n/2
	}
	l := make([]api.Vector, n)
	for i := range l {
		l[i] = api.Vector{i}
	}
	l[n/3] = long
	join, less := vec.Join(l...), vec.Least(l...)
	if len(join) != n || join[0] != n-1 || join[1] != 0 || join[n/2] != 0 || join[n/2+1] != 1 || join[n-1] != n/2-1 {
		t.Errorf("Join has %d counts", len(join))
	}
	if len(less) != n/2 || less[0] != -n/2 || less[n/2-1] != -1 {
		t.Errorf("Least has %d counts", len(less))
	}
}

// P6.1: Covers and Rel.

// stands is how two vectors stand, as Rel has it.
var stands = []struct {
	a, b api.Vector
	rel  int
}{
	{nil, nil, 0},
	{nil, api.Vector{0, 0}, 0},
	{api.Vector{1, 2}, api.Vector{1, 2}, 0},
	{api.Vector{1, 2}, api.Vector{1, 2, 0, 0}, 0},
	{api.Vector{-1}, api.Vector{-1, 0}, 0},
	{api.Vector{1}, nil, 1},
	{api.Vector{0, 0, 1}, api.Vector{0}, 1},
	{api.Vector{1, 2}, api.Vector{1, 1}, 1},
	{api.Vector{1, 2}, api.Vector{0, 2}, 1},
	{api.Vector{1, 2, 1}, api.Vector{1, 2}, 1},
	{nil, api.Vector{-1}, 1},
	{api.Vector{1}, api.Vector{1, 0, -1}, 1},
	{api.Vector{math.MaxInt}, api.Vector{math.MinInt}, 1},
	{append(make(api.Vector, 20), 1), nil, 1},
	{api.Vector{1}, api.Vector{0, 1}, 2},
	{api.Vector{1, 2}, api.Vector{2, 1}, 2},
	{api.Vector{5, 5, 5}, api.Vector{4, 5, 6}, 2},
	{api.Vector{5, 5}, api.Vector{4, 5, 1}, 2},
	{api.Vector{1, -1}, api.Vector{0}, 2},
	{api.Vector{1}, append(make(api.Vector, 20), 1), 2},
	{api.Vector{math.MaxInt, math.MinInt}, nil, 2},
}

func TestCovers(t *testing.T) {
	for _, c := range stands {
		if got := vec.Covers(c.a, c.b); got != (c.rel == 0 || c.rel == 1) {
			t.Errorf("that %v covers %v is %t", c.a, c.b, got)
		}
		if got := vec.Covers(c.b, c.a); got != (c.rel == 0) {
			t.Errorf("that %v covers %v is %t", c.b, c.a, got)
		}
	}
}

func TestRel(t *testing.T) {
	for _, c := range stands {
		if got := vec.Rel(c.a, c.b); got != c.rel {
			t.Errorf("Rel of %v and %v is %d, not %d", c.a, c.b, got, c.rel)
		}
		turned := c.rel
		if turned == 1 {
			turned = -1
		}
		if got := vec.Rel(c.b, c.a); got != turned {
			t.Errorf("Rel of %v and %v is %d, not %d", c.b, c.a, got, turned)
		}
	}
}

func TestCoversAndRelOfAll(t *testing.T) {
	rels := map[[2]bool]int{{true, true}: 0, {true, false}: 1, {false, true}: -1, {false, false}: 2}
	found := map[int]int{}
	for _, a := range vectors() {
		for _, b := range vectors() {
			over, under := covers(a, b), covers(b, a)
			if got := vec.Covers(a, b); got != over {
				t.Fatalf("that %v covers %v is %t", a, b, got)
			}
			rel := vec.Rel(a, b)
			if rel != rels[[2]bool{over, under}] {
				t.Fatalf("Rel of %v and %v is %d", a, b, rel)
			}
			found[rel]++
		}
	}
	for _, rel := range rels {
		if found[rel] < 100 {
			t.Errorf("the test is too weak: Rel is %d of %d pairs", rel, found[rel])
		}
	}
}

// P6.1: what is answered is new memory.

func TestAnswersAreNewMemory(t *testing.T) {
	one := map[string]func(v api.Vector) api.Vector{
		"Trim":                 vec.Trim,
		"With of a region":     func(v api.Vector) api.Vector { return vec.With(v, 2, 8) },
		"With of what is so":   func(v api.Vector) api.Vector { return vec.With(v, 1, vec.At(v, 1)) },
		"With of the last":     func(v api.Vector) api.Vector { return vec.With(v, 16, 0) },
		"With of no region":    func(v api.Vector) api.Vector { return vec.With(v, 0, 8) },
		"With of one too many": func(v api.Vector) api.Vector { return vec.With(v, 17, 8) },
	}
	many := map[string]func(l ...api.Vector) api.Vector{"Join": vec.Join, "Least": vec.Least}
	for _, v := range vectors() {
		for name, f := range one {
			wantNew(t, name, func(l ...api.Vector) api.Vector { return f(l[0]) }, v)
		}
		for name, f := range many {
			wantNew(t, name, f, v)
			wantNew(t, name, f, v, nil)
			wantNew(t, name, f, nil, v)
			wantNew(t, name, f, v, v, api.Vector{1, -1, 3, 0, 7})
		}
	}
}

func TestListsStayAsTheyAre(t *testing.T) {
	for name, f := range map[string]func(l ...api.Vector) api.Vector{"Join": vec.Join, "Least": vec.Least} {
		l := []api.Vector{{1, 0, 2, 0}, nil, {0, 5}, {9}}[:3]
		f(l...)
		for i, v := range []api.Vector{{1, 0, 2, 0}, nil, {0, 5}, {9}} {
			want(t, l[:4][i], v, "behind %s the vector of number %d", name, i)
		}
	}
}

func TestWhatOnlyAsksWritesNothing(t *testing.T) {
	for _, a := range vectors() {
		for _, b := range vectors() {
			x, y := slices.Clone(a), slices.Clone(b)
			vec.At(x, 1)
			vec.Covers(x, y)
			vec.Rel(x, y)
			want(t, x, a, "the first vector")
			want(t, y, b, "the second vector")
		}
	}
}

// P6.2: Join.

// coversAll tells whether v covers each one of l.
func coversAll(v api.Vector, l []api.Vector) bool {
	return !slices.ContainsFunc(l, func(w api.Vector) bool { return !vec.Covers(v, w) })
}

func TestJoinIsTheLeastThatCoversAll(t *testing.T) {
	l := small(3, 0, 1, 2)
	for _, a := range l {
		for _, b := range l {
			j := vec.Join(a, b)
			if !vec.Covers(j, a) || !vec.Covers(j, b) {
				t.Fatalf("Join of %v and %v is %v, which doesn't cover both", a, b, j)
			}
			for _, c := range l {
				if vec.Covers(c, a) && vec.Covers(c, b) && !vec.Covers(c, j) {
					t.Fatalf("%v covers %v and %v, but not their Join %v", c, a, b, j)
				}
			}
		}
	}
}

func TestJoinOfManyIsTheLeastThatCoversAll(t *testing.T) {
	l := small(2, 0, 1, 3)
	for i := range l {
		for n := range 5 {
			some := l[i:min(len(l), i+n)]
			j := vec.Join(some...)
			if !coversAll(j, some) {
				t.Fatalf("Join of %v is %v, which doesn't cover all", some, j)
			}
			for _, c := range l {
				if coversAll(c, some) && !vec.Covers(c, j) {
					t.Fatalf("%v covers all of %v, but not their Join %v", c, some, j)
				}
			}
		}
	}
}

func TestJoinDoesNotHangOnOrder(t *testing.T) {
	l := small(2, 0, 1, 2)
	for _, a := range l {
		want(t, vec.Join(a, a), vec.Trim(a), "Join of %v and itself", a)
		for _, b := range l {
			want(t, vec.Join(b, a), vec.Join(a, b), "Join of %v and %v", b, a)
			for _, c := range l {
				want(t, vec.Join(vec.Join(a, b), c), vec.Join(a, b, c), "Join of %v and %v, and then %v,", a, b, c)
				want(t, vec.Join(a, vec.Join(b, c)), vec.Join(a, b, c), "Join of %v, and of %v and %v,", a, b, c)
			}
		}
	}
}

// P6.2: Covers.

func TestCoversIsAnOrder(t *testing.T) {
	l := small(3, -1, 0, 2)
	for _, a := range l {
		if !vec.Covers(a, a) {
			t.Fatalf("%v doesn't cover itself", a)
		}
		for _, b := range l {
			if !vec.Covers(a, b) {
				continue
			}
			if vec.Covers(b, a) && !slices.Equal(vec.Trim(a), vec.Trim(b)) {
				t.Fatalf("%v and %v cover one another", a, b)
			}
			for _, c := range l {
				if vec.Covers(b, c) && !vec.Covers(a, c) {
					t.Fatalf("%v covers %v, and that %v, which the first doesn't", a, b, c)
				}
			}
		}
	}
}
