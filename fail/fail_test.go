package fail_test

import (
	"errors"
	"fmt"
	"slices"
	"strconv"
	"strings"
	"testing"
	"time"

	"sojourn/api"
	"sojourn/fail"
)

const lastCode = int(api.ErrOrder)

var errPlain = errors.New("plain")

// list is an error that can't be held against another one.
type list []string

func (l list) Error() string { return strings.Join(l, ",") }

// turncoat says of itself that it is what it stands for.
type turncoat struct {
	code  api.Code
	place *fail.Error
}

func (turncoat) Error() string { return "turncoat" }

func (c turncoat) As(target any) bool {
	switch x := target.(type) {
	case *api.Code:
		*x = c.code
		return true
	case **fail.Error:
		*x = c.place
		return true
	}
	return false
}

// loop wraps itself, singly.
type loop struct{}

func (loop) Error() string { return "loop" }
func (loop) Unwrap() error { return loop{} }

// loops wraps itself, twice.
type loops struct{}

func (loops) Error() string   { return "loops" }
func (loops) Unwrap() []error { return []error{loops{}, loops{}} }

// bomb panics, whatever it is asked.
type bomb struct{}

func (bomb) Error() string { panic("Error") }
func (bomb) Unwrap() error { panic("Unwrap") }
func (bomb) As(any) bool   { panic("As") }

// ended runs f, which must end and mustn't panic.
func ended(t *testing.T, name string, f func()) {
	t.Helper()
	done := make(chan any, 1)
	go func() {
		defer func() { done <- recover() }()
		f()
	}()
	select {
	case p := <-done:
		if p != nil {
			t.Errorf("%s panics: %v", name, p)
		}
	case <-time.After(2 * time.Minute):
		t.Fatalf("%s doesn't end", name)
	}
}

// P1.1: At.

func TestAtOfNilIsNil(t *testing.T) {
	if err := fail.At("x", 1, nil); err != nil {
		t.Errorf("At of nil is %v", err)
	}
}

func TestAtHasItsParts(t *testing.T) {
	for _, at := range []int{0, 7, -1, 1 << 62, -1 << 63} {
		for _, where := range []string{"", "frame", "a: b"} {
			e, ok := fail.At(where, at, errPlain).(*fail.Error)
			if !ok || e == nil {
				t.Fatalf("At(%q, %d) is no *Error", where, at)
			}
			if e.Where != where || e.At != at || e.Err != errPlain {
				t.Errorf("At(%q, %d) is %+v", where, at, *e)
			}
			if e.Unwrap() != errPlain {
				t.Errorf("At(%q, %d) unwraps to %v", where, at, e.Unwrap())
			}
		}
	}
}

func TestAtMakesANewError(t *testing.T) {
	a, b := fail.At("x", 1, errPlain).(*fail.Error), fail.At("x", 1, errPlain).(*fail.Error)
	a.Where = "y"
	if b.Where != "x" {
		t.Error("two errors of At are one")
	}
}

func TestErrorText(t *testing.T) {
	for _, c := range []struct {
		err  error
		want string
	}{
		{fail.At("journal", 7, fail.At("frame", 2, api.ErrForm)), "journal: frame: sojourn: bytes that nobody writes so"},
		{fail.At("x", 3, errPlain), "x: plain"},
		{fail.At("", 0, errPlain), ": plain"},
		{fail.At("a", 0, errors.New("")), "a: "},
		{fail.At("a: ", 0, errPlain), "a: : plain"},
		{fail.At("a", 0, fmt.Errorf("b (%w)", fail.At("c", 1, errPlain))), "a: b (c: plain)"},
		{&fail.Error{Where: "alone", At: 4}, "alone"},
		{&fail.Error{}, ""},
		{fail.At("x", 0, &fail.Error{Where: "alone"}), "x: alone"},
		{fail.At("x", 0, &fail.Error{}), "x: "},
		{fail.At("x", 0, fail.Both(errPlain, fail.At("y", 1, api.ErrDown))), "x: plain; y: sojourn: the power is off"},
		{fail.At("x", 0, list{"a", "b"}), "x: a,b"},
	} {
		if s := c.err.Error(); s != c.want {
			t.Errorf("the text is %q, not %q", s, c.want)
		}
	}
}

func TestErrorWithoutErr(t *testing.T) {
	e := &fail.Error{Where: "alone", At: 4}
	if e.Unwrap() != nil {
		t.Error("it wraps something")
	}
	if w, n, ok := fail.Place(e); w != "alone" || n != 4 || !ok {
		t.Error(w, n, ok)
	}
	if n := fail.Number(e); n != -1 {
		t.Error(n)
	}
	if c := fail.Class(e); c != 4 {
		t.Error(c)
	}
}

func TestNilError(t *testing.T) {
	var e *fail.Error
	if e.Unwrap() != nil {
		t.Error("a nil *Error wraps something")
	}
	if s := e.Error(); s != "" {
		t.Errorf("a nil *Error's text is %q", s)
	}
	if s := fail.At("x", 1, e).Error(); s != "x: " {
		t.Errorf("around a nil *Error the text is %q", s)
	}
	if n := fail.Number(e); n != -1 {
		t.Errorf("a nil *Error's number is %d", n)
	}
	if c := fail.Class(e); c != 4 {
		t.Errorf("a nil *Error's class is %d", c)
	}
	ended(t, "Place of a nil *Error", func() { fail.Place(e) })
	ended(t, "Trail of a nil *Error", func() { fail.Trail(e) })
	if s := fail.Both(e, errPlain).Error(); s != "; plain" {
		t.Errorf("beside a nil *Error the text is %q", s)
	}
}

// P1.1: Both.

func TestBothOfNilAndOne(t *testing.T) {
	if err := fail.Both(nil, nil); err != nil {
		t.Errorf("Both of nothing is %v", err)
	}
	if err := fail.Both(errPlain, nil); err != errPlain {
		t.Errorf("Both of the first alone is %v", err)
	}
	if err := fail.Both(nil, errPlain); err != errPlain {
		t.Errorf("Both of the second alone is %v", err)
	}
	if err := fail.Both(nil, api.ErrDown); err != api.ErrDown {
		t.Errorf("Both of the second alone is %v", err)
	}
}

func TestBothText(t *testing.T) {
	for _, c := range []struct {
		a, b error
		want string
	}{
		{errPlain, api.ErrDown, "plain; sojourn: the power is off"},
		{api.ErrDown, errPlain, "sojourn: the power is off; plain"},
		{errors.New(""), errors.New(""), "; "},
		{fail.Both(errors.New("a"), errors.New("b")), errors.New("c"), "a; b; c"},
		{errors.New("a"), fail.Both(errors.New("b"), errors.New("c")), "a; b; c"},
		{fail.At("x", 1, errPlain), fail.At("y", 2, errPlain), "x: plain; y: plain"},
		{errors.Join(errPlain, errPlain), list{"l"}, "plain\nplain; l"},
	} {
		if s := fail.Both(c.a, c.b).Error(); s != c.want {
			t.Errorf("the text is %q, not %q", s, c.want)
		}
	}
}

func TestBothWrapsBoth(t *testing.T) {
	other := errors.New("plain")
	b := fail.Both(fail.At("x", 1, api.ErrFull), fmt.Errorf("of %w", errPlain))
	if !errors.Is(b, api.ErrFull) || !errors.Is(b, errPlain) {
		t.Error("errors.Is doesn't find what it wraps")
	}
	if errors.Is(b, api.ErrDown) || errors.Is(b, other) {
		t.Error("errors.Is finds what it doesn't wrap")
	}
	var l list
	if !errors.As(fail.Both(errPlain, fail.At("x", 1, list{"a"})), &l) || len(l) != 1 || l[0] != "a" {
		t.Errorf("errors.As finds %v in the second", l)
	}
	if !errors.As(fail.Both(list{"a"}, list{"b"}), &l) || l[0] != "a" {
		t.Errorf("errors.As finds %v first", l)
	}
}

func TestBothFirstAhead(t *testing.T) {
	deep := fail.At("p", 1, fail.At("q", 2, fmt.Errorf("in %w", api.ErrFull)))
	for _, c := range []struct {
		a, b   error
		number int
		where  string
	}{
		{deep, api.ErrDown, 4, "p"},
		{api.ErrDown, deep, 5, "p"},
		{deep, fail.At("r", 3, api.ErrDown), 4, "p"},
		{fail.At("r", 3, api.ErrDown), deep, 5, "r"},
		{fail.At("r", 3, errPlain), deep, 4, "r"},
		{errPlain, deep, 4, "p"},
		{fail.Both(errPlain, api.ErrDown), deep, 5, "p"},
		{fail.Both(errPlain, deep), fail.At("r", 3, api.ErrDown), 4, "p"},
	} {
		b := fail.Both(c.a, c.b)
		if n := fail.Number(b); n != c.number {
			t.Errorf("of %v the number is %d, not %d", b, n, c.number)
		}
		if w, _, ok := fail.Place(b); w != c.where || !ok {
			t.Errorf("of %v the place is %q, not %q", b, w, c.where)
		}
	}
}

func TestBothMayBeHeldAgainstOthers(t *testing.T) {
	a, b := fail.Both(list{"a"}, list{"b"}), fail.Both(list{"a"}, list{"b"})
	ended(t, "errors.Is of what can't be compared", func() { errors.Is(a, b) })
	if !errors.Is(fail.At("x", 1, a), a) {
		t.Error("errors.Is doesn't find it")
	}
}

// P1.1: Number.

func TestNumber(t *testing.T) {
	for _, c := range []struct {
		name string
		err  error
		want int
	}{
		{"nil", nil, 0},
		{"no code", errPlain, -1},
		{"no code within", fail.At("x", 1, fail.Both(errPlain, fmt.Errorf("of %w", errPlain))), -1},
		{"an error without Err", &fail.Error{Where: "x"}, -1},
		{"a code that isn't named", api.Code(99), 99},
		{"a code below 0", fail.At("x", 1, api.Code(-7)), -7},
		{"wrapped by another package", fmt.Errorf("a %w", fmt.Errorf("b %w", api.ErrGone)), 14},
		{"the first of a list", errors.Join(errPlain, api.ErrGone, api.ErrArg), 14},
		{"the outer list's first", fail.Both(errors.Join(errPlain), fail.Both(api.ErrHome, api.ErrArg)), 13},
		{"what calls itself a code", fail.At("x", 1, turncoat{code: api.ErrLong}), 3},
		{"what calls itself a code, ahead of one", fail.Both(turncoat{code: api.ErrLong}, api.ErrArg), 3},
		{"a list that is empty", fail.Both(errors.Join(errPlain), errPlain), -1},
	} {
		if n := fail.Number(c.err); n != c.want {
			t.Errorf("%s: the number is %d, not %d", c.name, n, c.want)
		}
	}
	for n := 1; n <= lastCode; n++ {
		if got := fail.Number(api.Code(n)); got != n {
			t.Errorf("the number of the code %d is %d", n, got)
		}
	}
}

// P1.1: Place.

func TestPlace(t *testing.T) {
	for _, c := range []struct {
		name  string
		err   error
		where string
		at    int
		ok    bool
	}{
		{"nil", nil, "", 0, false},
		{"a code", api.ErrForm, "", 0, false},
		{"no place", fail.Both(errPlain, fmt.Errorf("of %w", api.ErrForm)), "", 0, false},
		{"one", fail.At("a", 5, api.ErrForm), "a", 5, true},
		{"the outer one", fail.At("a", 5, fail.At("b", 6, api.ErrForm)), "a", 5, true},
		{"below 0", fail.At("a", -5, errPlain), "a", -5, true},
		{"without a name", fail.At("", 0, errPlain), "", 0, true},
		{"within another package's", fmt.Errorf("of %w", fail.At("a", 5, errPlain)), "a", 5, true},
		{"the first of both", fail.Both(fail.At("a", 5, errPlain), fail.At("b", 6, errPlain)), "a", 5, true},
		{"the second of both", fail.Both(errPlain, fail.At("b", 6, errPlain)), "b", 6, true},
		{"the first, though deep", fail.Both(fmt.Errorf("of %w", fail.At("a", 5, errPlain)), fail.At("b", 6, errPlain)), "a", 5, true},
		{"what calls itself one", turncoat{place: &fail.Error{Where: "t", At: 8}}, "t", 8, true},
	} {
		where, at, ok := fail.Place(c.err)
		if where != c.where || at != c.at || ok != c.ok {
			t.Errorf("%s: the place is %q %d %t", c.name, where, at, ok)
		}
	}
}

// P1.1: Trail.

func TestTrail(t *testing.T) {
	tail := fail.At("b", 6, fmt.Errorf("of %w", fail.At("c", 7, api.ErrForm)))
	for _, c := range []struct {
		name string
		err  error
		want []string
	}{
		{"nil", nil, nil},
		{"a code", api.ErrForm, nil},
		{"one", fail.At("a", 5, api.ErrForm), []string{"a"}},
		{"without Err", &fail.Error{Where: "a"}, []string{"a"}},
		{"three", fail.At("a", 5, tail), []string{"a", "b", "c"}},
		{"alike ones", fail.At("a", 5, fail.At("a", 5, errPlain)), []string{"a", "a"}},
		{"without names", fail.At("", 5, fail.At("", 5, errPlain)), []string{"", ""}},
		{"the first of both alone", fail.Both(fail.At("a", 5, errPlain), tail), []string{"a"}},
		{"the first of both, and what is in it", fail.At("x", 1, fail.Both(tail, fail.At("y", 1, errPlain))), []string{"x", "b", "c"}},
		{"the second of both", fail.At("x", 1, fail.Both(errPlain, tail)), []string{"x", "b", "c"}},
		{"what calls itself one", turncoat{place: &fail.Error{Where: "t", Err: tail}}, []string{"t", "b", "c"}},
	} {
		if l := fail.Trail(c.err); !slices.Equal(l, c.want) {
			t.Errorf("%s: the trail is %q, not %q", c.name, l, c.want)
		}
	}
}

func TestTrailHasAtMostAHundred(t *testing.T) {
	for _, n := range []int{99, 100, 101, 1000} {
		err := error(api.ErrForm)
		for i := n; i > 0; i-- {
			err = fail.At(strconv.Itoa(i), i, err)
		}
		l := fail.Trail(err)
		if len(l) != min(n, 100) {
			t.Fatalf("of %d places the trail has %d", n, len(l))
		}
		for i, s := range l {
			if s != strconv.Itoa(i+1) {
				t.Fatalf("of %d places the one of number %d is %q", n, i, s)
			}
		}
	}
}

func TestTrailIsNewMemory(t *testing.T) {
	err := fail.At("a", 1, fail.At("b", 2, api.ErrForm))
	fail.Trail(err)[0] = "x"
	if l := fail.Trail(err); !slices.Equal(l, []string{"a", "b"}) {
		t.Errorf("the trail is %q", l)
	}
}

// P1.1: Class.

func TestClass(t *testing.T) {
	want := map[api.Code]int{
		api.ErrEarly:  1,
		api.ErrLapsed: 2, api.ErrHome: 2, api.ErrFull: 2, api.ErrDown: 2,
		api.ErrCookie: 3, api.ErrRevoked: 3, api.ErrGone: 3,
	}
	for n := 1; n <= lastCode+5; n++ {
		code := api.Code(n)
		class, ok := want[code]
		if !ok {
			class = 4
		}
		for name, err := range wraps(code) {
			if got := fail.Class(err); got != class {
				t.Errorf("the class of the code %d, %s, is %d, not %d", n, name, got, class)
			}
		}
	}
	if got := fail.Class(nil); got != 0 {
		t.Errorf("the class of nil is %d", got)
	}
	if got := fail.Class(errPlain); got != 4 {
		t.Errorf("the class of an error without a code is %d", got)
	}
	if got := fail.Class(api.Code(-1)); got != 4 {
		t.Errorf("the class of the code -1 is %d", got)
	}
	if got := fail.Class(fail.Both(errPlain, fail.Both(api.ErrEarly, api.ErrArg))); got != 1 {
		t.Errorf("the class isn't that of the first code, but %d", got)
	}
}

// P1.2.

// wraps is an error that wraps a code, in many ways.
func wraps(c api.Code) map[string]error {
	deep := error(c)
	for i := range 3000 {
		switch i % 4 {
		case 0:
			deep = fail.At("x", i, deep)
		case 1:
			deep = fail.Both(deep, errPlain)
		case 2:
			deep = fail.Both(errPlain, deep)
		case 3:
			deep = errors.Join(nil, deep)
		}
	}
	return map[string]error{
		"bare":                c,
		"At":                  fail.At("x", 0, c),
		"At of At":            fail.At("x", 0, fail.At("y", 1, c)),
		"the first of Both":   fail.Both(c, errPlain),
		"the second of Both":  fail.Both(errPlain, c),
		"Both of At":          fail.Both(list{"a"}, fail.At("x", 0, c)),
		"At of Both":          fail.At("x", 0, fail.Both(errPlain, c)),
		"another package's":   fmt.Errorf("of %w", fail.At("x", 0, c)),
		"At of another's":     fail.At("x", 0, fmt.Errorf("of %w", c)),
		"another's list":      errors.Join(errPlain, fail.Both(errPlain, c)),
		"Both of it and it":   fail.Both(c, fail.At("x", 0, c)),
		"Both of nil and it":  fail.Both(nil, fail.At("x", 0, c)),
		"very often, all of ": deep,
	}
}

func TestACodeIsFoundHoweverItIsWrapped(t *testing.T) {
	for n := 1; n <= lastCode; n++ {
		for name, err := range wraps(api.Code(n)) {
			for m := 1; m <= lastCode; m++ {
				if got := errors.Is(err, api.Code(m)); got != (m == n) {
					t.Errorf("the code %d, %s: errors.Is of %d is %t", n, name, m, got)
				}
			}
			if got := fail.Number(err); got != n {
				t.Errorf("the code %d, %s: the number is %d", n, name, got)
			}
		}
	}
}

func TestNoCodeIsFoundWhereThereIsNone(t *testing.T) {
	for _, err := range []error{
		fail.At("x", 1, errPlain),
		fail.Both(errPlain, fail.At("x", 1, list{"a"})),
		&fail.Error{Where: "x", At: 1},
	} {
		for m := 0; m <= lastCode; m++ {
			if errors.Is(err, api.Code(m)) {
				t.Errorf("errors.Is finds %d in %v", m, err)
			}
		}
	}
}

func TestACodeIsFoundInLongChains(t *testing.T) {
	const often = 1 << 16
	single, left, right := error(api.ErrGone), error(api.ErrGone), error(api.ErrGone)
	for i := range often {
		single = fail.At("x", i, single)
		left = fail.Both(left, errPlain)
		right = fail.Both(errPlain, right)
	}
	for name, err := range map[string]error{"At": single, "Both, first": left, "Both, second": right} {
		if n := fail.Number(err); n != 14 || !errors.Is(err, api.ErrGone) || errors.Is(err, api.ErrArg) {
			t.Errorf("%s: the number is %d", name, n)
		}
	}
	want := strings.Repeat("x: ", often) + api.ErrGone.Error()
	if single.Error() != want {
		t.Error("the text of a long chain is another one")
	}
	if want = api.ErrGone.Error() + strings.Repeat("; plain", often); left.Error() != want {
		t.Error("the text of many in one, first ones, is another one")
	}
	if want = strings.Repeat("plain; ", often) + api.ErrGone.Error(); right.Error() != want {
		t.Error("the text of many in one, second ones, is another one")
	}
}

// No call panics, and each ends, whatever it is given.

func TestAnErrorThatWrapsItself(t *testing.T) {
	self := &fail.Error{Where: "self", At: 3}
	self.Err = self
	ended(t, "Trail", func() {
		l := fail.Trail(self)
		if len(l) != 100 || l[0] != "self" || l[99] != "self" {
			t.Errorf("the trail is %q", l)
		}
	})
	ended(t, "Place", func() {
		if w, n, ok := fail.Place(self); w != "self" || n != 3 || !ok {
			t.Error(w, n, ok)
		}
	})
	coded := &fail.Error{Where: "coded"}
	coded.Err = fail.Both(api.ErrHome, coded)
	ended(t, "Number", func() {
		if n := fail.Number(coded); n != 13 {
			t.Errorf("the number is %d", n)
		}
		if n := fail.Class(fmt.Errorf("of %w", coded)); n != 2 {
			t.Errorf("the class is %d", n)
		}
	})
}

func TestAllCallsEnd(t *testing.T) {
	self := &fail.Error{Where: "self"}
	self.Err = self
	round := &fail.Error{Where: "round"}
	round.Err = fail.Both(round, fail.Both(errPlain, round))
	joined := &fail.Error{Where: "joined"}
	joined.Err = errors.Join(errPlain, fmt.Errorf("of %w", loop{}), joined)
	var none *fail.Error
	var nobody *turncoat
	for name, err := range map[string]error{
		"self": self, "round": round, "joined": joined, "loop": loop{}, "loops": loops{}, "bomb": bomb{},
		"Both of self": fail.Both(self, errPlain), "At of loop": fail.At("x", 1, loop{}), "Both of loops": fail.Both(loops{}, loops{}),
		"At of a bomb": fail.At("x", 1, bomb{}), "Both of bombs": fail.Both(bomb{}, bomb{}),
		"a nil one": none, "At of a nil one": fail.At("x", 1, none), "a nil one of another": nobody, "At of that": fail.At("x", 1, nobody),
		"what calls itself a nil one": turncoat{}, "At of that one": fail.At("x", 1, turncoat{}),
	} {
		ended(t, "Number of "+name, func() { fail.Number(err) })
		ended(t, "Place of "+name, func() { fail.Place(err) })
		ended(t, "Trail of "+name, func() {
			if l := fail.Trail(err); len(l) > 100 {
				t.Errorf("the trail of %s has %d", name, len(l))
			}
		})
		ended(t, "Class of "+name, func() {
			if c := fail.Class(err); c < 1 || c > 4 {
				t.Errorf("the class of %s is %d", name, c)
			}
		})
		ended(t, "At of "+name, func() {
			e, ok := fail.At("x", 1, err).(*fail.Error)
			if !ok || e == nil {
				t.Errorf("At of %s is no *Error", name)
				return
			}
			_ = e.Error()
		})
		ended(t, "Both of "+name, func() {
			_ = fail.Both(err, errPlain).Error()
		})
	}
}
