package journal_test

import (
	"errors"
	"regexp"
	"slices"
	"strconv"
	"strings"
	"testing"

	"sojourn/api"
	"sojourn/block"
	"sojourn/fail"
	"sojourn/frame"
	"sojourn/journal"
)

// num is a number's bytes, in layer 5's words.
func num(n int) string {
	var b []byte
	for n >= 128 {
		b = append(b, byte(n%128+128))
		n /= 128
	}
	return string(append(b, byte(n)))
}

// payload is what stands in the frame of a part.
func payload(kind, gen, place int, text string) string {
	return num(kind) + num(gen) + num(place) + num(len(text)) + text
}

// framed is the frame of a payload.
func framed(p string) string {
	s, err := frame.Seal(p)
	if err != nil {
		panic(err)
	}
	return s
}

// part is a part as it stands on a device.
func part(kind, gen, place int, text string) string {
	return framed(payload(kind, gen, place, text))
}

// piece is a part that was read, and where the next one stands.
type piece struct {
	kind, gen, place int
	text             string
	next             int
}

// readNum is the number with which s begins, and what is behind it; -1, if none is.
func readNum(s string) (int, string) {
	for n := 1; n <= 9 && n <= len(s); n++ {
		sum := 0
		for i := range n {
			sum += int(s[i]&127) << (7 * i)
		}
		if num(sum) == s[:n] {
			return sum, s[n:]
		}
	}
	return -1, s
}

// standing is the part that stands in s at a place.
func standing(s string, at int) (piece, bool) {
	p, next, err := frame.Open(s, at)
	if err != nil {
		return piece{}, false
	}
	kind, r := readNum(p)
	gen, r := readNum(r)
	place, r := readNum(r)
	size, r := readNum(r)
	switch {
	case kind < 1, kind > 4, gen < 1, gen > 1<<40, place < 0, place > 1<<40, size != len(r), size > 4096, kind != 2 && r != "":
		return piece{}, false
	}
	return piece{kind, gen, place, r, next}, true
}

// account is what a device tells, in the chapter's own words.
type account struct {
	pieces         []piece
	end            int
	corrupt, whole bool
}

var wholeKinds = regexp.MustCompile(`^12*3[24]*$`)

// accountOf is what bytes tell.
func accountOf(s string) account {
	var a account
	for {
		p, ok := standing(s, a.end)
		if !ok {
			break
		}
		a.pieces, a.end = append(a.pieces, p), p.next
	}
	for at := a.end + 1; at < len(s); at++ {
		if p, ok := standing(s, at); s[at] == 1 && ok && p.place > a.end {
			a.corrupt = true
		}
	}
	kinds, gens := "", map[int]bool{}
	for _, p := range a.pieces {
		kinds += strconv.Itoa(p.kind)
		gens[p.gen] = true
	}
	a.whole = !a.corrupt && wholeKinds.MatchString(kinds) && len(gens) == 1
	return a
}

// records are the texts of the Records.
func (a account) records() []string {
	var l []string
	for _, p := range a.pieces {
		if p.kind == 2 {
			l = append(l, p.text)
		}
	}
	return l
}

// model is a journal that does what the chapter says, word by word, on devices of its own.
type model struct {
	on, spare *block.Disk
	gen       int
	over      bool
}

// must is a device's bytes.
func must(d *block.Disk) string {
	s, err := d.Read(0, d.Len())
	if err != nil {
		panic(err)
	}
	return s
}

// openModel is Open in the chapter's own words.
func openModel(a, b *block.Disk) (*model, []string, error) {
	if a == b {
		return nil, nil, api.ErrArg
	}
	if a.Down() || b.Down() {
		return nil, nil, api.ErrDown
	}
	x, y := accountOf(must(a)), accountOf(must(b))
	excused := func(x, y account) bool {
		return len(x.pieces) > 0 && x.pieces[0].kind == 1 && y.whole && y.pieces[0].gen > x.pieces[0].gen
	}
	if x.corrupt && !excused(x, y) || y.corrupt && !excused(y, x) {
		return nil, nil, api.ErrCorrupt
	}
	if !x.whole && !y.whole {
		m := &model{on: a, spare: b}
		if err := m.start(); err != nil {
			return nil, nil, err
		}
		return m, nil, nil
	}
	m, it := &model{on: a, spare: b}, x
	if !x.whole || y.whole && y.pieces[0].gen > x.pieces[0].gen {
		m, it = &model{on: b, spare: a}, y
	}
	m.gen = it.pieces[0].gen
	l, err := m.finish(it)
	if err != nil {
		return nil, nil, err
	}
	return m, l, nil
}

// finish is what Open does on the present device.
func (m *model) finish(it account) ([]string, error) {
	if it.end < m.on.Len() {
		if err := m.on.Cut(it.end); err != nil {
			return nil, err
		}
	}
	if it.pieces[len(it.pieces)-1].kind == 4 {
		return it.records(), nil
	}
	if err := m.on.Sync(); err != nil {
		return nil, err
	}
	err := m.on.Append(part(4, m.gen, m.on.Safe(), ""))
	if err == nil {
		return it.records(), m.on.Sync()
	}
	if !errors.Is(err, api.ErrFull) {
		return nil, err
	}
	last := -1
	for i, p := range it.pieces {
		if p.kind == 4 {
			last = i
		}
	}
	if last < 0 {
		return it.records(), nil
	}
	it.pieces = it.pieces[:last+1]
	return it.records(), m.on.Cut(it.pieces[last].next)
}

// attempt puts parts on a device, and a Mark: what Put and Start have in common.
func attempt(d *block.Disk, gen int, parts string) error {
	was := d.Len()
	err := d.Append(parts)
	if err == nil {
		err = d.Sync()
	}
	if err == nil {
		err = d.Append(part(4, gen, d.Safe(), ""))
	}
	if err == nil {
		err = d.Sync()
	}
	if errors.Is(err, api.ErrFull) {
		if cut := d.Cut(was); cut != nil {
			return cut
		}
	}
	return err
}

// tooLong tells whether one of the records is.
func tooLong(l []string) bool {
	return slices.ContainsFunc(l, func(s string) bool { return len(s) > 4096 })
}

// put is Put in the chapter's own words.
func (m *model) put(l ...string) error {
	if m.over {
		return api.ErrDown
	}
	if len(l) == 0 {
		return nil
	}
	if tooLong(l) || len(l) > 400 {
		return api.ErrLong
	}
	parts := ""
	for _, s := range l {
		parts += part(2, m.gen, m.on.Safe(), s)
	}
	err := attempt(m.on, m.gen, parts)
	m.over = errors.Is(err, api.ErrDown)
	return err
}

// start is Start in the chapter's own words.
func (m *model) start(l ...string) error {
	if m.over {
		return api.ErrDown
	}
	if tooLong(l) || m.gen == 1<<40 {
		return api.ErrLong
	}
	err := m.spare.Cut(0)
	if err == nil {
		parts := part(1, m.gen+1, 0, "")
		for _, s := range l {
			parts += part(2, m.gen+1, 0, s)
		}
		err = attempt(m.spare, m.gen+1, parts+part(3, m.gen+1, 0, ""))
	}
	if err == nil {
		m.on, m.spare, m.gen = m.spare, m.on, m.gen+1
	}
	m.over = errors.Is(err, api.ErrDown)
	return err
}

// dice are numbers below n that look like any others, by a rule.
func dice(seed uint32) func(n int) int {
	return func(n int) int {
		seed = seed*1664525 + 1013904223
		return int(seed>>8) % n
	}
}

// pair is a journal with its devices, and a model with such devices of its own.
type pair struct {
	t     *testing.T
	mine  [2]*block.Disk
	other [2]*block.Disk
	j     *journal.Journal
	m     *model
	done  []string
}

// newPair is a pair whose devices have these bytes, and no room for more.
func newPair(t *testing.T, a, b string) *pair {
	p := &pair{t: t}
	for i, s := range []string{a, b} {
		p.mine[i], p.other[i] = holding(t, s), holding(t, s)
	}
	return p
}

// both does something to a device of both.
func (p *pair) both(i int, what string, f func(d *block.Disk)) {
	p.done = append(p.done, what+" of "+strconv.Itoa(i))
	f(p.mine[i])
	f(p.other[i])
}

// alike tells in the test if both differ behind a call.
func (p *pair) alike(what string, got, want error) {
	p.t.Helper()
	p.done = append(p.done, what)
	if fail.Number(got) != fail.Number(want) {
		p.t.Fatalf("behind %q: the error is %v, not %v", p.done, got, want)
	}
	for i := range 2 {
		a, b := p.mine[i], p.other[i]
		if a.Down() != b.Down() || a.Safe() != b.Safe() || a.Len() != b.Len() {
			p.t.Fatalf("behind %q: of device %d: down is %t, safe %d, length %d, not %t, %d, %d", p.done, i, a.Down(), a.Safe(), a.Len(), b.Down(), b.Safe(), b.Len())
		}
		if !a.Down() && must(a) != must(b) {
			p.t.Fatalf("behind %q: device %d has %q, not %q", p.done, i, must(a), must(b))
		}
	}
	if p.m == nil {
		if p.j != nil {
			p.t.Fatalf("behind %q there is a journal", p.done)
		}
		return
	}
	if p.j.Gen() != p.m.gen || p.j.Size() != p.m.on.Len() {
		p.t.Fatalf("behind %q: generation %d, size %d, not %d, %d", p.done, p.j.Gen(), p.j.Size(), p.m.gen, p.m.on.Len())
	}
}

// open opens both anew.
func (p *pair) open() {
	p.t.Helper()
	var got, want []string
	var gotErr, wantErr error
	p.j, got, gotErr = journal.Open(p.mine[0], p.mine[1])
	p.m, want, wantErr = openModel(p.other[0], p.other[1])
	p.alike("Open", gotErr, wantErr)
	if gotErr != nil {
		wantPlace(p.t, "Open", gotErr, 0)
	}
	if !slices.Equal(got, want) {
		p.t.Fatalf("behind %q: the records are %q, not %q", p.done, got, want)
	}
}

// someRecords are records, seldom too long.
func someRecords(throw func(n int) int) []string {
	var l []string
	for range throw(4) {
		size := throw(5)
		if throw(40) == 0 {
			size = 4096 + throw(2)
		}
		l = append(l, strings.Repeat(string(byte('a'+throw(26))), size))
	}
	return l
}

// step does one thing to both.
func (p *pair) step(throw func(n int) int) {
	p.t.Helper()
	i, n := throw(2), throw(12)
	switch throw(12) {
	case 0:
		p.both(i, "Fuse "+strconv.Itoa(n-2), func(d *block.Disk) { d.Fuse(n - 2) })
	case 1:
		room := []int{0, 60, 100, 150, 200, 300, 1000, 1 << 20}[throw(8)]
		p.both(i, "Room "+strconv.Itoa(room), func(d *block.Disk) { d.Room(room) })
	case 2:
		kept, mask := throw(2000), []string{"", "\x00", "\x01\x00", "\x01\x01\x01\x01\x01\x01\x01\x00"}[throw(4)]
		p.both(i, "Crash "+strconv.Itoa(kept), func(d *block.Disk) { d.Crash(kept, mask) })
	case 3:
		if throw(4) == 0 {
			at, by := throw(400), byte(throw(256))
			p.both(i, "Rot "+strconv.Itoa(at), func(d *block.Disk) { d.Rot(at, by) })
		}
	case 4, 5:
		p.open()
	case 6, 7:
		if p.m != nil {
			p.asked("Start", someRecords(throw), (*journal.Journal).Start, (*model).start)
		}
	default:
		if p.m != nil {
			p.asked("Put", someRecords(throw), (*journal.Journal).Put, (*model).put)
		}
	}
}

// asked asks both to take records.
func (p *pair) asked(what string, l []string, f func(*journal.Journal, ...string) error, g func(*model, ...string) error) {
	p.t.Helper()
	gen := p.j.Gen()
	err := f(p.j, l...)
	p.alike(what+" "+strconv.Itoa(len(l)), err, g(p.m, l...))
	if err != nil {
		wantPlace(p.t, what, err, gen)
	}
}

// P10.1, of all orders of calls.

func TestManyOrdersOfManyCalls(t *testing.T) {
	for seed := range uint32(3000) {
		throw := dice(seed)
		p := newPair(t, "", "")
		for i := range 2 {
			p.both(i, "Room", func(d *block.Disk) { d.Room(1 << 20) })
		}
		for range 60 {
			p.step(throw)
		}
	}
}

// strange is bytes that a device may have: parts, mostly in their order, and other things between them.
func strange(throw func(n int) int) string {
	gen, s := 1+throw(3), ""
	kinds := []int{1}
	for range throw(3) {
		kinds = append(kinds, 2)
	}
	kinds = append(kinds, 3)
	for range throw(5) {
		kinds = append(kinds, 2+2*throw(2))
	}
	for _, k := range kinds {
		g, place, text := gen, len(s), ""
		switch throw(40) {
		case 0:
			k = throw(6)
		case 1:
			g = throw(4)
		case 2:
			s += "\x01"
		case 3:
			s += strings.Repeat("\x00", 1+throw(20))
		case 4:
			continue
		case 5:
			s += framed("no part")
		}
		if throw(3) == 0 {
			place = throw(len(s) + 40)
		}
		if k == 2 || throw(60) == 0 {
			text = "record"[:throw(7)]
		}
		s += part(k, g, place, text)
	}
	b := []byte(s)
	if len(b) > 0 && throw(4) == 0 {
		b[throw(len(b))] ^= byte(throw(256))
	}
	if throw(4) == 0 {
		b = b[:throw(len(b)+1)]
	}
	return string(b)
}

func TestOpenOfStrangeDevices(t *testing.T) {
	found := map[int]int{}
	for seed := range uint32(60000) {
		throw := dice(seed)
		a, b := strange(throw), strange(throw)
		if throw(4) == 0 {
			a = ""
		}
		p := newPair(t, a, b)
		for i := range 2 {
			room, fuse := []int{p.mine[i].Len() + 10, 1 << 20}[throw(2)], throw(30)
			p.both(i, "Room "+strconv.Itoa(room), func(d *block.Disk) { d.Room(room) })
			if fuse < 6 {
				p.both(i, "Fuse "+strconv.Itoa(fuse), func(d *block.Disk) { d.Fuse(fuse) })
			}
		}
		p.open()
		if p.m == nil {
			found[-1]++
		} else {
			found[p.m.gen]++
			p.asked("Put", []string{"x"}, (*journal.Journal).Put, (*model).put)
			p.asked("Start", []string{"y"}, (*journal.Journal).Start, (*model).start)
		}
		p.open()
	}
	for gen := -1; gen <= 3; gen++ {
		if gen != 0 && found[gen] < 500 {
			t.Errorf("the test is too weak: %v", found)
		}
	}
}
