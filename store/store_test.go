package store_test

import (
	"errors"
	"math"
	"runtime"
	"slices"
	"sort"
	"strconv"
	"strings"
	"testing"
	"unsafe"

	"sojourn/api"
	"sojourn/fail"
	"sojourn/reg"
	"sojourn/store"
)

const maxNum = 1 << 40

// dice are numbers below n that look like any others, by a rule.
func dice(seed uint32) func(n int) int {
	return func(n int) int {
		seed = seed*1664525 + 1013904223
		return int(seed>>8) % n
	}
}

// put is a write of a value at a time of region 1.
func put(time int, session, key, value string) api.Write {
	return api.Write{Region: 1, Number: time, Stamp: api.Stamp{Time: time, Region: 1}, Session: session, Key: key, Value: value}
}

// gone is a write of a deletion at a time of region 1.
func gone(time int, session, key string) api.Write {
	w := put(time, session, key, "")
	w.Gone = true
	return w
}

// row is the row of a write.
func row(w api.Write) store.Row {
	return store.Row{Session: w.Session, Key: w.Key, Cell: reg.Of(w)}
}

// with is a store that writes were applied to.
func with(l ...api.Write) *store.Store {
	s := store.New()
	for _, w := range l {
		s.Apply(w)
	}
	return s
}

// of is the store with these rows, which must be right.
func of(t *testing.T, l ...store.Row) *store.Store {
	t.Helper()
	s, err := store.Of(l)
	if err != nil || s == nil {
		t.Fatalf("Of %#v is %v, %v", l, s, err)
	}
	return s
}

// wantError tells in the test if err isn't one of the code, with the place "store" and at.
func wantError(t *testing.T, err error, code api.Code, at int) {
	t.Helper()
	if !errors.Is(err, code) || fail.Number(err) != int(code) {
		t.Fatalf("the error is %v, not %v", err, code)
	}
	if where, n, ok := fail.Place(err); where != "store" || n != at || !ok {
		t.Fatalf("the place of %v is %q %d %t, not \"store\" %d", err, where, n, ok, at)
	}
}

// wantValue tells in the test if Get isn't the value.
func wantValue(t *testing.T, s *store.Store, session, key, value string) {
	t.Helper()
	if got, err := s.Get(session, key); got != value || err != nil {
		t.Fatalf("Get(%q, %q) is %q, %v, not %q", session, key, got, err, value)
	}
}

// wantNone tells in the test if Get isn't an error of the code.
func wantNone(t *testing.T, s *store.Store, session, key string, code api.Code) {
	t.Helper()
	got, err := s.Get(session, key)
	if got != "" {
		t.Fatalf("Get(%q, %q) is %q with the error %v", session, key, got, err)
	}
	wantError(t, err, code, 0)
}

// wantKeys tells in the test if these aren't the session's keys.
func wantKeys(t *testing.T, s *store.Store, session string, want ...string) {
	t.Helper()
	if got := s.Keys(session); !slices.Equal(got, want) {
		t.Fatalf("Keys(%q) is %q, not %q", session, got, want)
	}
}

// wantLives tells in the test if these aren't the sessions that live.
func wantLives(t *testing.T, s *store.Store, want ...string) {
	t.Helper()
	if got := s.Lives(); !slices.Equal(got, want) {
		t.Fatalf("Lives() is %q, not %q", got, want)
	}
}

// wantRows tells in the test if these aren't all cells.
func wantRows(t *testing.T, s *store.Store, want ...store.Row) {
	t.Helper()
	if got := s.Rows(); !slices.Equal(got, want) {
		t.Fatalf("Rows() is %#v, not %#v", got, want)
	}
}

// wantShows tells in the test if these aren't the cells that show.
func wantShows(t *testing.T, s *store.Store, want ...store.Row) {
	t.Helper()
	if got := s.Shows(); !slices.Equal(got, want) {
		t.Fatalf("Shows() is %#v, not %#v", got, want)
	}
}

// wantNothing tells in the test if a store has a cell.
func wantNothing(t *testing.T, s *store.Store) {
	t.Helper()
	wantRows(t, s)
	wantShows(t, s)
	wantLives(t, s)
	for _, session := range []string{"", "1-1"} {
		wantKeys(t, s, session)
		if got := s.Head(session); got != (reg.Cell{}) {
			t.Fatalf("Head(%q) is %#v", session, got)
		}
	}
	for _, floor := range []int{math.MinInt, -1, 0, 1, maxNum, math.MaxInt} {
		if got := s.Sweep(floor); got != 0 {
			t.Fatalf("Sweep(%d) is %d", floor, got)
		}
	}
}

// The model: the chapter's own words, over a list of rows in no order.

type model []store.Row

// place is where the row of a session and a key stands; -1, if there is none.
func (m model) place(session, key string) int {
	return slices.IndexFunc(m, func(r store.Row) bool { return r.Session == session && r.Key == key })
}

// cell is the one of a session and a key, or the zero cell.
func (m model) cell(session, key string) reg.Cell {
	if i := m.place(session, key); i >= 0 {
		return m[i].Cell
	}
	return reg.Cell{}
}

// shows tells whether a cell is visible.
func shows(c reg.Cell) bool {
	return c.Stamp.Time > 0 && !c.Gone
}

func (m *model) apply(w api.Write) bool {
	i := m.place(w.Session, w.Key)
	if i < 0 {
		*m = append(*m, row(w))
		return true
	}
	had := (*m)[i].Cell
	(*m)[i].Cell = reg.Merge(had, reg.Of(w))
	return (*m)[i].Cell != had
}

func (m model) get(session, key string) (string, error) {
	switch {
	case key == "":
		return "", api.ErrArg
	case !shows(m.cell(session, "")):
		return "", api.ErrGone
	case !shows(m.cell(session, key)):
		return "", api.ErrMissing
	}
	return m.cell(session, key).Value, nil
}

func (m model) keys(session string) []string {
	var l []string
	for _, r := range m {
		if r.Session == session && r.Key != "" && shows(r.Cell) {
			l = append(l, r.Key)
		}
	}
	sort.Strings(l)
	return l
}

func (m model) lives() []string {
	var l []string
	for _, r := range m {
		if r.Key == "" && shows(r.Cell) {
			l = append(l, r.Session)
		}
	}
	sort.Strings(l)
	return l
}

func (m *model) sweep(floor int) int {
	var kept model
	for _, r := range *m {
		if !r.Cell.Gone || r.Cell.Stamp.Time > floor {
			kept = append(kept, r)
		}
	}
	swept := len(*m) - len(kept)
	*m = kept
	return swept
}

func (m model) rows() []store.Row {
	l := slices.Clone([]store.Row(m))
	sort.Slice(l, func(i, k int) bool {
		if l[i].Session != l[k].Session {
			return l[i].Session < l[k].Session
		}
		return l[i].Key < l[k].Key
	})
	return l
}

func (m model) shown() []store.Row {
	var l []store.Row
	for _, r := range m.rows() {
		if shows(r.Cell) && shows(m.cell(r.Session, "")) {
			l = append(l, r)
		}
	}
	return l
}

// names are sessions or keys, of which some begin others, and which are no letters all.
func names() []string {
	return []string{"", "1-1", "1-10", "1-11", "10-1", "2-1", "a", "a\x00", "aa", "b", "\x00", "\x7f", "\x80", "\xc3\xa9", "\xff"}
}

// wantModel tells in the test if a store answers anything else than the model does.
func wantModel(t *testing.T, s *store.Store, m model) {
	t.Helper()
	wantRows(t, s, m.rows()...)
	wantShows(t, s, m.shown()...)
	wantLives(t, s, m.lives()...)
	for _, session := range names() {
		wantKeys(t, s, session, m.keys(session)...)
		if got, want := s.Head(session), m.cell(session, ""); got != want {
			t.Fatalf("Head(%q) is %#v, not %#v", session, got, want)
		}
		for _, key := range names() {
			want, err := m.get(session, key)
			if err != nil {
				wantNone(t, s, session, key, api.Code(fail.Number(err)))
				continue
			}
			wantValue(t, s, session, key, want)
		}
	}
}

// some is a write of few choices, so that many come to one cell.
func some(throw func(int) int, times int) api.Write {
	w := api.Write{
		Region: 1 + throw(2), Number: 1 + throw(9),
		Session: names()[throw(4)], Key: names()[throw(4)],
		Value: names()[throw(3)], Life: throw(2),
	}
	w.Stamp = api.Stamp{Time: 1 + throw(times), Region: w.Region}
	if throw(3) == 0 {
		w.Gone, w.Value = true, ""
	}
	return w
}

// P16.1: New and Of.

func TestExample(t *testing.T) {
	s := store.New()
	s.Apply(put(1, "1-1", "", "ann"))
	s.Apply(put(2, "1-1", "a", "x"))
	wantValue(t, s, "1-1", "a", "x")
	s.Apply(gone(3, "1-1", ""))
	wantNone(t, s, "1-1", "a", api.ErrGone)
}

func TestNew(t *testing.T) {
	s := store.New()
	if s == nil {
		t.Fatal("New is nil")
	}
	wantNothing(t, s)
	wantNone(t, s, "1-1", "a", api.ErrGone)
	other := store.New()
	other.Apply(put(1, "1-1", "", "ann"))
	wantNothing(t, s)
}

func TestOf(t *testing.T) {
	for _, l := range [][]store.Row{nil, {}} {
		s := of(t, l...)
		wantNothing(t, s)
		if !s.Apply(put(1, "1-1", "", "ann")) {
			t.Error("a write of a store of no rows is nothing new")
		}
		wantLives(t, s, "1-1")
	}
	l := []store.Row{
		row(put(7, "1-1", "", "ann")), row(gone(3, "1-1", "a")), row(put(4, "1-1", "b", "x")),
		row(gone(9, "1-2", "")), row(put(5, "1-2", "a", "y")),
		row(put(5, "1-3", "a", "z")),
	}
	s := of(t, l...)
	wantModel(t, s, model(l))
	wantRows(t, of(t, s.Rows()...), l...)
}

// All cells are taken, also those that no write of a region makes.
func TestOfTakesAllCells(t *testing.T) {
	l := []store.Row{
		{},
		{Key: "a", Cell: reg.Cell{Life: -1}},
		{Session: "1-1", Cell: reg.Cell{Stamp: api.Stamp{Time: math.MinInt, Region: -3}, Value: "v", Gone: true}},
		{Session: "1-1", Key: "a", Cell: reg.Cell{Stamp: api.Stamp{Time: 0, Region: 2}, Value: strings.Repeat("v", 1000)}},
		{Session: "1-1", Key: strings.Repeat("k", 1000), Cell: reg.Cell{Stamp: api.Stamp{Time: math.MaxInt}}},
		{Session: strings.Repeat("s", 1000), Cell: reg.Cell{Stamp: api.Stamp{Time: 1}}},
	}
	s := of(t, l...)
	wantModel(t, s, model(l))
	wantRows(t, s, l...)
}

func TestOfRefusesRowsThatDoNotRise(t *testing.T) {
	a := func(session, key string) store.Row { return row(put(1, session, key, "v")) }
	for _, c := range []struct {
		l  []store.Row
		at int
	}{
		{[]store.Row{{}, {}}, 1},
		{[]store.Row{a("1-1", ""), a("1-1", "")}, 1},
		{[]store.Row{a("1-1", "a"), a("1-1", "")}, 1},
		{[]store.Row{a("1-1", "b"), a("1-1", "a")}, 1},
		{[]store.Row{a("1-1", "aa"), a("1-1", "a")}, 1},
		{[]store.Row{a("1-2", ""), a("1-1", "a")}, 1},
		{[]store.Row{a("1-10", ""), a("1-1", "0")}, 1},
		{[]store.Row{a("1-2", ""), a("1-10", "")}, 1},
		{[]store.Row{a("\xff", ""), a("\xc3\xa9", "")}, 1},
		{[]store.Row{a("1-1", "a"), a("1-1", "b"), a("1-1", "b"), a("1-1", "a")}, 2},
		{[]store.Row{a("1-1", "a"), a("1-2", ""), a("1-3", ""), a("1-1", "b")}, 3},
		{[]store.Row{a("1-1", "c"), a("1-1", "b"), a("1-1", "a")}, 1},
		{[]store.Row{a("1-1", "a"), a("1-1", "a"), a("1-1", "b"), a("1-1", "b")}, 1},
	} {
		s, err := store.Of(c.l)
		if s != nil {
			t.Errorf("Of %#v is a store", c.l)
		}
		wantError(t, err, api.ErrArg, c.at)
	}
	// It isn't the cell that tells: like places are refused, whatever stands there.
	_, err := store.Of([]store.Row{row(put(1, "1-1", "a", "v")), row(put(2, "1-1", "a", "w"))})
	wantError(t, err, api.ErrArg, 1)
}

func TestOfAllPairs(t *testing.T) {
	var l []store.Row
	for _, session := range names() {
		for _, key := range names() {
			l = append(l, row(put(1, session, key, "v")))
		}
	}
	for _, a := range l {
		for _, b := range l {
			rises := strings.Compare(a.Session, b.Session) < 0 || a.Session == b.Session && strings.Compare(a.Key, b.Key) < 0
			s, err := store.Of([]store.Row{a, b})
			if rises {
				if err != nil {
					t.Fatalf("Of %#v, %#v is %v", a, b, err)
				}
				wantRows(t, s, a, b)
				continue
			}
			if s != nil {
				t.Fatalf("Of %#v, %#v is a store", a, b)
			}
			wantError(t, err, api.ErrArg, 1)
		}
	}
	model := model(l)
	wantModel(t, of(t, model.rows()...), model)
}

func TestOfTellsTheFirstPlace(t *testing.T) {
	var l []store.Row
	for i := range 200 {
		l = append(l, row(put(1, "s", strconv.Itoa(1000+i), "v")))
	}
	of(t, l...)
	for at := 1; at < len(l); at++ {
		for _, from := range []int{at - 1, at / 2, 0} {
			wrong := slices.Clone(l)
			wrong[at] = wrong[from]
			s, err := store.Of(wrong)
			if s != nil {
				t.Fatal("Of rows that don't rise is a store")
			}
			wantError(t, err, api.ErrArg, at)
		}
	}
}

// P16.1: Apply.

// wantApply tells in the test if Apply of w isn't want.
func wantApply(t *testing.T, s *store.Store, w api.Write, want bool) {
	t.Helper()
	if got := s.Apply(w); got != want {
		t.Fatalf("Apply of %#v is %t", w, got)
	}
}

func TestApply(t *testing.T) {
	s := store.New()
	wantApply(t, s, put(5, "1-1", "a", "x"), true)
	wantApply(t, s, put(5, "1-1", "a", "x"), false)
	wantApply(t, s, put(4, "1-1", "a", "y"), false)
	wantApply(t, s, gone(4, "1-1", "a"), false)
	wantRows(t, s, row(put(5, "1-1", "a", "x")))
	wantApply(t, s, put(6, "1-1", "a", "x"), true)
	wantRows(t, s, row(put(6, "1-1", "a", "x")))
	wantApply(t, s, gone(6, "1-1", "a"), true)
	wantApply(t, s, put(6, "1-1", "a", "x"), false)
	wantRows(t, s, row(gone(6, "1-1", "a")))
	wantApply(t, s, gone(7, "1-1", "a"), true)
	wantRows(t, s, row(gone(7, "1-1", "a")))
	wantApply(t, s, put(8, "1-1", "a", "y"), true)
	wantRows(t, s, row(put(8, "1-1", "a", "y")))
}

func TestApplyOfOneThingMore(t *testing.T) {
	for _, c := range []struct {
		what   string
		change func(w *api.Write)
	}{
		{"a later time", func(w *api.Write) { w.Stamp.Time = 4 }},
		{"a greater region", func(w *api.Write) { w.Stamp.Region = 3 }},
		{"that it is gone", func(w *api.Write) { w.Gone = true }},
		{"a greater value", func(w *api.Write) { w.Value = "n" }},
		{"a greater life", func(w *api.Write) { w.Life = 5 }},
	} {
		t.Run(c.what, func(t *testing.T) {
			less := api.Write{Region: 2, Number: 1, Stamp: api.Stamp{Time: 3, Region: 2}, Session: "2-1", Key: "a", Value: "m", Life: 4}
			more := less
			c.change(&more)
			s := with(less)
			wantApply(t, s, more, true)
			wantRows(t, s, row(more))
			wantApply(t, s, less, false)
			wantRows(t, s, row(more))
		})
	}
}

// Which region's write it is, its number, and what it follows, say nothing here.
func TestApplyAsksForTheCellAlone(t *testing.T) {
	w := api.Write{Region: 2, Number: 7, Stamp: api.Stamp{Time: 3, Region: 2}, Deps: api.Vector{1, 6}, Session: "2-1", Key: "a", Value: "m"}
	s := with(w)
	for _, change := range []func(w *api.Write){
		func(w *api.Write) { w.Region = 9 },
		func(w *api.Write) { w.Number = 9 },
		func(w *api.Write) { w.Deps = nil },
		func(w *api.Write) { w.Deps = api.Vector{5, 5, 5} },
	} {
		same := w
		change(&same)
		wantApply(t, s, same, false)
		wantRows(t, s, row(w))
	}
}

// A cell that is there counts, also if it is the zero one, and one that isn't there doesn't.
func TestApplyWhereThereIsNoCell(t *testing.T) {
	s := store.New()
	wantApply(t, s, api.Write{}, true)
	wantRows(t, s, store.Row{})
	wantApply(t, s, api.Write{}, false)
	wantApply(t, s, api.Write{Life: -1}, false)
	wantApply(t, s, api.Write{Stamp: api.Stamp{Time: -1, Region: 5}}, false)
	wantRows(t, s, store.Row{})
	// What is below the zero cell is taken where there is none.
	low := api.Write{Stamp: api.Stamp{Time: -1}, Session: "s", Key: "k", Life: -1}
	wantApply(t, s, low, true)
	wantApply(t, s, low, false)
	wantRows(t, s, store.Row{}, row(low))
}

func TestApplyTakesEachPlaceAlone(t *testing.T) {
	s := store.New()
	var want model
	for i, session := range names() {
		for k, key := range names() {
			w := put(1+i*len(names())+k, session, key, strconv.Itoa(i)+" "+strconv.Itoa(k))
			wantApply(t, s, w, true)
			want = append(want, row(w))
		}
	}
	wantModel(t, s, want)
	for _, r := range want {
		wantApply(t, s, put(r.Cell.Stamp.Time, r.Session, r.Key, r.Cell.Value), false)
	}
	wantModel(t, s, want)
}

// P16.1: Get.

func TestGet(t *testing.T) {
	s := with(
		put(1, "1-1", "", "ann"), put(2, "1-1", "a", "x"), put(3, "1-1", "b", ""), gone(4, "1-1", "c"),
		gone(9, "1-2", ""), put(2, "1-2", "a", "y"), gone(3, "1-2", "b"),
		put(2, "1-3", "a", "z"),
		put(1, "1-4", "", ""), put(2, "1-4", "a", "w"),
	)
	wantValue(t, s, "1-1", "a", "x")
	wantValue(t, s, "1-1", "b", "")
	wantValue(t, s, "1-4", "a", "w")
	for _, c := range []struct {
		session, key string
		code         api.Code
	}{
		// The key is asked first, then the session, then the cell.
		{"1-1", "", api.ErrArg},
		{"1-2", "", api.ErrArg},
		{"1-3", "", api.ErrArg},
		{"1-9", "", api.ErrArg},
		{"", "", api.ErrArg},
		{"1-2", "a", api.ErrGone},
		{"1-2", "b", api.ErrGone},
		{"1-2", "c", api.ErrGone},
		{"1-3", "a", api.ErrGone},
		{"1-9", "a", api.ErrGone},
		{"", "a", api.ErrGone},
		{"1-1", "c", api.ErrMissing},
		{"1-1", "d", api.ErrMissing},
		{"1-4", "b", api.ErrMissing},
		{"1-1", "a\x00", api.ErrMissing},
		{"1-1\x00", "a", api.ErrGone},
	} {
		wantNone(t, s, c.session, c.key, c.code)
	}
}

// A cell whose time is no time above 0 isn't visible, be it a head or another one.
func TestGetOfCellsWithoutATime(t *testing.T) {
	for _, time := range []int{0, -1, math.MinInt} {
		none := reg.Cell{Stamp: api.Stamp{Time: time, Region: 1}, Value: "v"}
		one := reg.Cell{Stamp: api.Stamp{Time: 1, Region: 1}, Value: "w"}
		s := of(t, store.Row{Session: "1-1", Cell: none}, store.Row{Session: "1-1", Key: "a", Cell: one})
		wantNone(t, s, "1-1", "a", api.ErrGone)
		wantLives(t, s)
		wantShows(t, s)
		wantKeys(t, s, "1-1", "a")
		s = of(t, store.Row{Session: "1-1", Cell: one}, store.Row{Session: "1-1", Key: "a", Cell: none})
		wantNone(t, s, "1-1", "a", api.ErrMissing)
		wantLives(t, s, "1-1")
		wantShows(t, s, store.Row{Session: "1-1", Cell: one})
		wantKeys(t, s, "1-1")
	}
}

// What is told by reading hangs on the session's own head alone, and comes back with it.
func TestGetBehindAHeadThatComesAndGoes(t *testing.T) {
	s := with(put(1, "1-1", "a", "x"), put(1, "1-2", "", "bob"))
	wantNone(t, s, "1-1", "a", api.ErrGone)
	s.Apply(put(5, "1-1", "", "ann"))
	wantValue(t, s, "1-1", "a", "x")
	s.Apply(gone(4, "1-1", ""))
	wantValue(t, s, "1-1", "a", "x")
	s.Apply(gone(5, "1-1", ""))
	wantNone(t, s, "1-1", "a", api.ErrGone)
	s.Apply(put(6, "1-1", "", "ann"))
	wantValue(t, s, "1-1", "a", "x")
}

func TestReadingChangesNothing(t *testing.T) {
	l := []api.Write{put(1, "1-1", "", "ann"), put(2, "1-1", "a", "x"), gone(3, "1-2", "")}
	s := with(l...)
	for range 2 {
		for _, session := range names() {
			s.Head(session)
			s.Keys(session)
			for _, key := range names() {
				s.Get(session, key)
			}
		}
		s.Lives()
		s.Rows()
		s.Shows()
	}
	wantRows(t, s, row(l[0]), row(l[1]), row(l[2]))
}

// P16.1: Head, Keys and Lives.

func TestHead(t *testing.T) {
	head := put(1, "1-1", "", "ann")
	head.Life = 7
	s := with(head, put(9, "1-1", "a", "x"), gone(2, "1-2", ""), put(3, "1-3", "a", "y"))
	for session, want := range map[string]reg.Cell{
		"1-1": reg.Of(head),
		"1-2": reg.Of(gone(2, "1-2", "")),
		"1-3": {},
		"1-4": {},
		"":    {},
	} {
		if got := s.Head(session); got != want {
			t.Errorf("Head(%q) is %#v, not %#v", session, got, want)
		}
	}
}

func TestKeys(t *testing.T) {
	s := with(
		put(1, "1-1", "", "ann"), put(2, "1-1", "b", "x"), put(3, "1-1", "a", ""), gone(4, "1-1", "c"), put(5, "1-1", "10", "x"), put(5, "1-1", "9", "x"),
		gone(1, "1-2", ""), put(2, "1-2", "b", "x"), gone(3, "1-2", "a"),
		put(2, "1-3", "k", "x"),
		put(2, "1-4", "", "bob"),
	)
	wantKeys(t, s, "1-1", "10", "9", "a", "b")
	wantKeys(t, s, "1-2", "b")
	wantKeys(t, s, "1-3", "k")
	wantKeys(t, s, "1-4")
	wantKeys(t, s, "1-5")
	wantKeys(t, s, "")
	s.Apply(gone(6, "1-1", "9"))
	s.Apply(put(6, "1-1", "c", "x"))
	wantKeys(t, s, "1-1", "10", "a", "b", "c")
}

func TestLives(t *testing.T) {
	s := with(
		put(1, "2-1", "", "ann"), put(1, "10-1", "", "bob"), put(1, "1-1", "", ""), put(1, "1-10", "", "dan"), put(1, "1-2", "", "eve"),
		gone(1, "1-3", ""), put(1, "1-4", "a", "x"), put(1, "1-2", "a", "x"),
	)
	wantLives(t, s, "1-1", "1-10", "1-2", "10-1", "2-1")
	s.Apply(gone(2, "10-1", ""))
	s.Apply(gone(2, "1-2", "a"))
	s.Apply(put(2, "1-3", "", "fay"))
	wantLives(t, s, "1-1", "1-10", "1-2", "1-3", "2-1")
}

func TestNamesRiseByteByByte(t *testing.T) {
	l := names()
	sort.Strings(l)
	s := store.New()
	for i := range l {
		name := l[(i*7+3)%len(l)]
		s.Apply(put(1, name, "", "u"))
		s.Apply(put(1, "x", name, "v"))
	}
	wantKeys(t, s, "x", l[1:]...)
	lives := append(slices.Clone(l), "x")
	sort.Strings(lives)
	wantLives(t, s, lives...)
}

// P16.1: Sweep, Rows and Shows.

func TestSweep(t *testing.T) {
	l := []api.Write{
		put(1, "1-1", "", "ann"), gone(2, "1-1", "a"), gone(3, "1-1", "b"), put(2, "1-1", "c", "x"), gone(4, "1-1", "d"),
		gone(3, "1-2", ""), put(1, "1-2", "a", "x"), gone(1, "1-2", "b"),
		gone(2, "1-3", ""), gone(3, "1-3", "a"),
	}
	for floor, want := range map[int]int{math.MinInt: 0, -1: 0, 0: 0, 1: 1, 2: 3, 3: 6, 4: 7, 5: 7, maxNum: 7, math.MaxInt: 7} {
		s := with(l...)
		var m model
		for _, w := range l {
			m.apply(w)
		}
		m.sweep(floor)
		if got := s.Sweep(floor); got != want {
			t.Errorf("Sweep(%d) is %d, not %d", floor, got, want)
		}
		wantModel(t, s, m)
		if got := s.Sweep(floor); got != 0 {
			t.Errorf("Sweep(%d) is %d, once more", floor, got)
		}
		wantModel(t, s, m)
	}
}

// Of what is let go nothing is left: what comes then comes as if there had been nothing.
func TestSweepLetsGo(t *testing.T) {
	s := with(gone(5, "1-1", "a"), gone(5, "1-1", ""))
	if got := s.Sweep(4); got != 0 {
		t.Errorf("Sweep(4) is %d", got)
	}
	wantApply(t, s, put(3, "1-1", "a", "x"), false)
	if got := s.Sweep(5); got != 2 {
		t.Errorf("Sweep(5) is %d", got)
	}
	wantNothing(t, s)
	wantApply(t, s, put(3, "1-1", "a", "x"), true)
	wantRows(t, s, row(put(3, "1-1", "a", "x")))
	wantApply(t, s, gone(3, "1-1", ""), true)
	wantApply(t, s, gone(3, "1-1", ""), false)
}

// A session of which all cells were let go is kept no more: however many come and go, a store doesn't grow.
func TestSweepKeepsNoSession(t *testing.T) {
	s := store.New()
	var first uint64
	for i := range 50 {
		for k := range 2000 {
			s.Apply(gone(1, strconv.Itoa(i)+"-"+strconv.Itoa(k), ""))
		}
		if got := s.Sweep(1); got != 2000 {
			t.Fatalf("Sweep is %d", got)
		}
		runtime.GC()
		var m runtime.MemStats
		runtime.ReadMemStats(&m)
		if i == 0 {
			first = m.HeapAlloc
		}
		if m.HeapAlloc > first+8<<20 {
			t.Fatalf("behind %d sweeps of all there was the store has %d bytes more", i+1, m.HeapAlloc-first)
		}
	}
	wantNothing(t, s)
}

// The floor is asked of the cell's time alone, also of one that no write of a region has.
func TestSweepOfAllTimes(t *testing.T) {
	times := []int{math.MinInt, -maxNum, -1, 0, 1, 2, maxNum, math.MaxInt}
	for _, time := range times {
		for _, floor := range times {
			for _, region := range []int{-20, 0, 1, 20} {
				for _, key := range []string{"", "a"} {
					c := reg.Cell{Stamp: api.Stamp{Time: time, Region: region}, Value: "v", Gone: true, Life: -7}
					visible := store.Row{Session: "1-2", Key: key, Cell: reg.Cell{Stamp: c.Stamp}}
					r := store.Row{Session: "1-1", Key: key, Cell: c}
					s := of(t, r, visible)
					want, left := 0, []store.Row{r, visible}
					if time <= floor {
						want, left = 1, left[1:]
					}
					if got := s.Sweep(floor); got != want {
						t.Fatalf("Sweep(%d) of a cell of the time %d is %d", floor, time, got)
					}
					wantRows(t, s, left...)
				}
			}
		}
	}
}

func TestRowsAndShows(t *testing.T) {
	s := with(
		gone(4, "1-1", "b"), put(2, "1-1", "a", "x"), put(1, "1-1", "", "ann"), put(3, "1-1", "c", ""),
		put(1, "1-10", "", "bob"),
		gone(9, "1-2", ""), put(2, "1-2", "a", "x"),
		put(2, "1-3", "a", "y"),
		gone(2, "1-4", "a"), gone(2, "1-4", ""),
	)
	all := []store.Row{
		row(put(1, "1-1", "", "ann")), row(put(2, "1-1", "a", "x")), row(gone(4, "1-1", "b")), row(put(3, "1-1", "c", "")),
		row(put(1, "1-10", "", "bob")),
		row(gone(9, "1-2", "")), row(put(2, "1-2", "a", "x")),
		row(put(2, "1-3", "a", "y")),
		row(gone(2, "1-4", "")), row(gone(2, "1-4", "a")),
	}
	wantRows(t, s, all...)
	wantShows(t, s, all[0], all[1], all[3], all[4])
}

// Rows rise by session, then by key, and not by the two as one text.
func TestRowsRise(t *testing.T) {
	l := names()
	throw := dice(7)
	var places [][2]string
	for _, session := range l {
		for _, key := range l {
			places = append(places, [2]string{session, key})
		}
	}
	for range 20 {
		for i := range places {
			k := throw(i + 1)
			places[i], places[k] = places[k], places[i]
		}
		s := store.New()
		for _, p := range places {
			s.Apply(put(1, p[0], p[1], "v"))
		}
		for what, rows := range map[string][]store.Row{"Rows": s.Rows(), "Shows": s.Shows()} {
			if len(rows) != len(places) {
				t.Fatalf("%s are %d of %d", what, len(rows), len(places))
			}
			for i := 1; i < len(rows); i++ {
				a, b := rows[i-1], rows[i]
				if a.Session > b.Session || a.Session == b.Session && a.Key >= b.Key {
					t.Fatalf("%s: %#v isn't above %#v", what, b, a)
				}
			}
		}
		wantRows(t, of(t, s.Rows()...), s.Rows()...)
	}
}

// P16.1: a nil *Store, and one that New didn't make.

func TestNil(t *testing.T) {
	var s *store.Store
	wantApply(t, s, put(1, "1-1", "", "ann"), false)
	for _, session := range []string{"", "1-1"} {
		for _, key := range []string{"", "a"} {
			wantNone(t, s, session, key, api.ErrArg)
		}
	}
	wantNothing(t, s)
}

func TestTheZeroStore(t *testing.T) {
	var s store.Store
	wantNothing(t, &s)
	wantNone(t, &s, "1-1", "a", api.ErrGone)
	wantNone(t, &s, "1-1", "", api.ErrArg)
	wantApply(t, &s, put(1, "1-1", "", "ann"), true)
	wantApply(t, &s, put(2, "1-1", "a", "x"), true)
	wantValue(t, &s, "1-1", "a", "x")
}

// P16.1: every order of calls.

func TestAgainstTheModel(t *testing.T) {
	throw := dice(11)
	applied, swept := [2]int{}, 0
	for range 150 {
		s, m := store.New(), model(nil)
		for range 60 {
			switch throw(8) {
			case 0:
				floor := throw(14) - 1
				got, want := s.Sweep(floor), m.sweep(floor)
				if got != want {
					t.Fatalf("Sweep(%d) is %d, not %d", floor, got, want)
				}
				swept += got
			case 1:
				s = of(t, s.Rows()...)
			default:
				w := some(throw, 12)
				want := m.apply(w)
				wantApply(t, s, w, want)
				if want {
					applied[1]++
				} else {
					applied[0]++
				}
			}
			wantModel(t, s, m)
		}
	}
	if applied[0] < 500 || applied[1] < 500 || swept < 500 {
		t.Errorf("the test is too weak: %d, %d", applied, swept)
	}
}

func TestManySessions(t *testing.T) {
	s := store.New()
	const n = 1 << 16
	name := func(i int) string { return "1-" + strconv.Itoa(n+i) }
	for i := range n {
		wantApply(t, s, put(1, name(i), "", "u"), true)
		wantApply(t, s, put(1, name(i), "k", strconv.Itoa(i)), true)
		if i%2 == 1 {
			wantApply(t, s, gone(2, name(i), ""), true)
		}
	}
	for i := range n {
		wantKeys(t, s, name(i), "k")
		if i%2 == 1 {
			wantNone(t, s, name(i), "k", api.ErrGone)
			continue
		}
		wantValue(t, s, name(i), "k", strconv.Itoa(i))
	}
	if rows, shown, lives := len(s.Rows()), len(s.Shows()), len(s.Lives()); rows != 2*n || shown != n || lives != n/2 {
		t.Errorf("there are %d, %d, %d", rows, shown, lives)
	}
	if got := s.Sweep(2); got != n/2 {
		t.Errorf("Sweep is %d", got)
	}
	if rows, shown, lives := len(s.Rows()), len(s.Shows()), len(s.Lives()); rows != 3*n/2 || shown != n || lives != n/2 {
		t.Errorf("behind it there are %d, %d, %d", rows, shown, lives)
	}
}

func TestManyKeys(t *testing.T) {
	s := with(put(1, "1-1", "", "ann"))
	const n = 1 << 16
	var want []string
	for i := range n {
		key := strconv.Itoa(n + i)
		want = append(want, key)
		s.Apply(put(1, "1-1", strconv.Itoa(n+(i*40503)%n), "v"))
	}
	sort.Strings(want)
	if got := s.Keys("1-1"); !slices.Equal(got, want) {
		t.Fatalf("Keys are %d, not the %d that were put", len(got), len(want))
	}
	for _, key := range want {
		wantValue(t, s, "1-1", key, "v")
		wantApply(t, s, gone(2, "1-1", key), true)
	}
	wantKeys(t, s, "1-1")
	if got := s.Sweep(2); got != n {
		t.Errorf("Sweep is %d", got)
	}
	wantRows(t, s, row(put(1, "1-1", "", "ann")))
}

// P16.2.

// winners is the model of writes, each cell the one that wins of all of its place.
func winners(l []api.Write) model {
	var m model
	for _, w := range l {
		if m.place(w.Session, w.Key) >= 0 {
			continue
		}
		var cells []reg.Cell
		for _, o := range l {
			if o.Session == w.Session && o.Key == w.Key {
				cells = append(cells, reg.Of(o))
			}
		}
		m = append(m, store.Row{Session: w.Session, Key: w.Key, Cell: reg.Merge(cells...)})
	}
	return m
}

// orders calls see with l in each of its orders.
func orders(l []api.Write, from int, see func(l []api.Write)) {
	if from == len(l) {
		see(l)
		return
	}
	for i := from; i < len(l); i++ {
		l[from], l[i] = l[i], l[from]
		orders(l, from+1, see)
		l[from], l[i] = l[i], l[from]
	}
}

func TestTheOrderOfWritesDoesNotMatter(t *testing.T) {
	for _, l := range [][]api.Write{
		{put(1, "1-1", "", "ann"), put(2, "1-1", "a", "x"), gone(2, "1-1", "a"), put(3, "1-1", "a", "y"), gone(4, "1-1", ""), put(5, "1-1", "", "ann")},
		{put(2, "1-1", "", "ann"), put(2, "1-1", "", "bob"), gone(2, "1-1", ""), gone(1, "1-1", "a"), put(2, "1-1", "a", "x"), put(2, "1-2", "", "x")},
	} {
		want := winners(l)
		orders(slices.Clone(l), 0, func(l []api.Write) { wantRows(t, with(l...), want.rows()...) })
		wantModel(t, with(l...), want)
	}
}

func TestTheWritesTellAll(t *testing.T) {
	throw := dice(13)
	for range 300 {
		var l []api.Write
		for range 30 {
			l = append(l, some(throw, 12))
		}
		want := winners(l)
		wantModel(t, with(l...), want)
		wantModel(t, with(append(slices.Clone(l), l...)...), want)
		// Each comes as often as it likes, in whichever order.
		s, rest := store.New(), slices.Clone(l)
		for len(rest) > 0 {
			at := throw(len(rest))
			s.Apply(rest[at])
			if throw(3) > 0 {
				rest = slices.Delete(rest, at, at+1)
			}
		}
		wantModel(t, s, want)
		// A part of them that stands in rows already is no other one.
		s = of(t, with(l[:15]...).Rows()...)
		for _, w := range l {
			s.Apply(w)
		}
		wantModel(t, s, want)
		for _, w := range l {
			wantApply(t, s, w, false)
		}
	}
}

// P16.3.

// wantSameShown tells in the test if two stores don't show the same.
func wantSameShown(t *testing.T, one, other *store.Store) {
	t.Helper()
	wantShows(t, one, other.Shows()...)
	wantLives(t, one, other.Lives()...)
	for _, session := range names() {
		wantKeys(t, one, session, other.Keys(session)...)
		if shows(one.Head(session)) != shows(other.Head(session)) {
			t.Fatalf("the head of %q is %#v and %#v", session, one.Head(session), other.Head(session))
		}
		for _, key := range names() {
			a, errA := one.Get(session, key)
			b, errB := other.Get(session, key)
			if a != b || fail.Number(errA) != fail.Number(errB) {
				t.Fatalf("Get(%q, %q) is %q, %v and %q, %v", session, key, a, errA, b, errB)
			}
		}
	}
}

func TestSweepShowsTheSame(t *testing.T) {
	throw := dice(17)
	swept := 0
	for range 200 {
		one, other := store.New(), store.New()
		floor := 0
		for range 5 {
			for range 12 {
				w := some(throw, 10)
				w.Stamp.Time += floor // above the floor
				one.Apply(w)
				other.Apply(w)
				wantSameShown(t, one, other)
			}
			floor += throw(9)
			swept += one.Sweep(floor)
			wantSameShown(t, one, other)
		}
	}
	if swept < 1000 {
		t.Errorf("the test is too weak: %d", swept)
	}
}

// The write just above the floor is the first that may come, and wins of all that was let go.
func TestSweepAtTheFloor(t *testing.T) {
	for _, key := range []string{"", "a"} {
		one, other := store.New(), store.New()
		for _, s := range []*store.Store{one, other} {
			s.Apply(put(1, "1-1", "", "ann"))
			s.Apply(put(2, "1-1", key, "x"))
			s.Apply(gone(6, "1-1", key))
		}
		if one.Sweep(5) != 0 || one.Sweep(6) != 1 {
			t.Fatal("what is gone at the floor is let go, not what is above it")
		}
		wantSameShown(t, one, other)
		for _, w := range []api.Write{put(7, "1-1", key, "y"), gone(8, "1-1", key), put(9, "1-1", key, "z")} {
			one.Apply(w)
			other.Apply(w)
			wantSameShown(t, one, other)
		}
	}
}

// What is answered shares no memory with what is handed in, nor with what is kept, and no argument is written into.

// text is the bytes of b, without a copy: whoever changes b changes it.
func text(b []byte) string {
	return unsafe.String(&b[0], len(b))
}

// spoil writes into a text that was answered.
func spoil(s string) {
	clear(unsafe.Slice(unsafe.StringData(s), len(s)))
}

// spoilRows writes into rows that were answered.
func spoilRows(l []store.Row) {
	for i := range l {
		spoil(l[i].Session)
		spoil(l[i].Key)
		spoil(l[i].Cell.Value)
		l[i] = store.Row{}
	}
}

// spoilNames writes into names that were answered.
func spoilNames(l []string) {
	for i := range l {
		spoil(l[i])
		l[i] = ""
	}
}

func TestApplySharesNoMemory(t *testing.T) {
	s := store.New()
	var want model
	// The third one changes nothing, the others are taken where there is no session, no cell, and another one.
	for _, time := range []int{2, 3, 1, 4} {
		for _, key := range []string{"a", "bb"} {
			session, name, value := []byte("1-1"), []byte(key), []byte("value")
			w := put(time, text(session), text(name), text(value))
			s.Apply(w)
			want.apply(put(time, "1-1", key, "value"))
			clear(session)
			clear(name)
			clear(value)
			wantModel(t, s, want)
		}
	}
	wantRows(t, s, row(put(4, "1-1", "a", "value")), row(put(4, "1-1", "bb", "value")))
}

func TestOfSharesNoMemory(t *testing.T) {
	session, key, value := []byte("1-1"), []byte("a"), []byte("value")
	l := []store.Row{row(put(1, "1-1", "", "ann")), {Session: text(session), Key: text(key), Cell: reg.Cell{Stamp: api.Stamp{Time: 1, Region: 1}, Value: text(value)}}}
	s := of(t, l...)
	clear(session)
	clear(key)
	clear(value)
	clear(l)
	wantRows(t, s, row(put(1, "1-1", "", "ann")), row(put(1, "1-1", "a", "value")))
	wantValue(t, s, "1-1", "a", "value")
}

func TestAnswersShareNoMemory(t *testing.T) {
	l := []api.Write{put(1, "1-1", "", "ann"), put(2, "1-1", "a", "value"), put(3, "1-1", "bb", "other"), put(1, "1-2", "", "bob"), put(2, "1-2", "a", "value")}
	// The names and values stand in memory that can be written into.
	for i, w := range l {
		l[i].Session, l[i].Key, l[i].Value = strings.Clone(w.Session), strings.Clone(w.Key), strings.Clone(w.Value)
	}
	var want model
	for _, w := range l {
		want.apply(w)
	}
	s := with(l...)
	ask := func() {
		spoilRows(s.Rows())
		spoilRows(s.Shows())
		spoilNames(s.Lives())
		spoilNames(s.Keys("1-1"))
		spoil(s.Head("1-1").Value)
		v, _ := s.Get("1-1", "a")
		spoil(v)
	}
	ask()
	wantModel(t, s, want)
	s.Sweep(9)
	ask()
	wantModel(t, s, want)
	if l[1].Session != "1-1" || l[1].Key != "a" || l[1].Value != "value" {
		t.Errorf("an answer shares memory with a write: %#v", l[1])
	}
	// Two stores, the one of the other's rows, are apart.
	rows := s.Rows()
	other := of(t, rows...)
	other.Apply(gone(9, "1-1", ""))
	other.Sweep(9)
	spoilRows(rows)
	wantModel(t, s, want)
}

func TestNothingIsWrittenInto(t *testing.T) {
	w := put(1, "1-1", "a", "v")
	w.Deps = api.Vector{1, 6, 0}
	s := with(w)
	s.Apply(w)
	if !slices.Equal(w.Deps, api.Vector{1, 6, 0}) {
		t.Errorf("Apply has written into a vector: %#v", w.Deps)
	}
	l := []store.Row{row(put(1, "1-1", "", "ann")), row(put(2, "1-1", "a", "x")), row(put(3, "1-1", "a", "y"))}
	want := slices.Clone(l)
	store.Of(l)
	store.Of(l[:2])
	of(t, l[:2]...).Apply(put(9, "1-1", "a", "z"))
	if !slices.Equal(l, want) {
		t.Errorf("Of has written into its list: %#v", l)
	}
}
