package journal_test

import (
	"errors"
	"math"
	"slices"
	"strconv"
	"strings"
	"testing"

	"sojourn/api"
	"sojourn/block"
	"sojourn/fail"
	"sojourn/journal"
)

const (
	maxBlock  = 1 << 20
	maxNum    = 1 << 40
	maxRecord = 4096
)

// holding is a device that has these bytes, all of them safe.
func holding(t *testing.T, s string) *block.Disk {
	t.Helper()
	d, err := block.New(maxBlock)
	done(t, "New", err)
	done(t, "Append", d.Append(s))
	done(t, "Sync", d.Sync())
	return d
}

// down is a device whose power is off.
func down(t *testing.T) *block.Disk {
	t.Helper()
	d := holding(t, "")
	d.Fuse(0)
	if d.Sync() == nil {
		t.Fatal("the fuse doesn't blow")
	}
	return d
}

// done tells in the test if an error is one.
func done(t *testing.T, what string, err error) {
	t.Helper()
	if err != nil {
		t.Fatalf("%s is %v", what, err)
	}
}

// wantPlace tells in the test if an error hasn't the place "journal" and a generation, around what it wraps.
func wantPlace(t *testing.T, what string, err error, gen int) {
	t.Helper()
	where, at, ok := fail.Place(err)
	if where != "journal" || at != gen || !ok {
		t.Fatalf("%s: the error %v has the place %q %d, not \"journal\" %d", what, err, where, at, gen)
	}
	if l := fail.Trail(err); !slices.Equal(l, []string{"journal"}) && !slices.Equal(l, []string{"journal", "block"}) {
		t.Fatalf("%s: the trail is %q", what, l)
	}
}

// wantFault tells in the test if err doesn't wrap c, with its place.
func wantFault(t *testing.T, what string, err error, c api.Code, gen int) {
	t.Helper()
	if !errors.Is(err, c) || fail.Number(err) != int(c) {
		t.Fatalf("%s: the error is %v (number %d), not one of number %d", what, err, fail.Number(err), c)
	}
	wantPlace(t, what, err, gen)
}

// wantNone tells in the test if Open isn't refused with c.
func wantNone(t *testing.T, what string, a, b *block.Disk, c api.Code) {
	t.Helper()
	j, l, err := journal.Open(a, b)
	if j != nil || len(l) != 0 {
		t.Fatalf("%s: with an error Open is %v, %q", what, j, l)
	}
	wantFault(t, what, err, c, 0)
}

// wantOpen opens, and tells in the test if that isn't a journal of a generation and records.
func wantOpen(t *testing.T, what string, a, b *block.Disk, gen int, want ...string) *journal.Journal {
	t.Helper()
	j, l, err := journal.Open(a, b)
	if err != nil || j == nil || j.Gen() != gen || !slices.Equal(l, want) {
		t.Fatalf("%s: Open is generation %d, %.200q, %v, not generation %d, %.200q", what, j.Gen(), l, err, gen, want)
	}
	return j
}

// wantBytes tells in the test if a device hasn't these bytes, all of them safe.
func wantBytes(t *testing.T, what string, d *block.Disk, s string) {
	t.Helper()
	if d.Down() || d.Safe() != d.Len() {
		t.Fatalf("%s: down is %t, of %d bytes %d are safe", what, d.Down(), d.Len(), d.Safe())
	}
	if got := must(d); got != s {
		t.Fatalf("%s: the device has %d bytes, not %d: %.300q, not %.300q", what, len(got), len(s), got, s)
	}
}

// wantOver tells in the test if a journal isn't over.
func wantOver(t *testing.T, what string, j *journal.Journal) {
	t.Helper()
	gen, size := j.Gen(), j.Size()
	long := strings.Repeat("x", maxRecord+1)
	for _, l := range [][]string{nil, {""}, {"x"}, {long}, make([]string, 401)} {
		wantFault(t, what+": Put", j.Put(l...), api.ErrDown, gen)
		wantFault(t, what+": Start", j.Start(l...), api.ErrDown, gen)
	}
	if j.Gen() != gen || j.Size() != size {
		t.Fatalf("%s: generation %d, size %d are %d, %d now", what, gen, size, j.Gen(), j.Size())
	}
}

// line is parts as they stand on a device, each with the place that was safe when it was put: of each text its first letter tells the kind (B, R, E, M), and what is behind that is the record. Parts up to a Mark have the place of the elder Mark's end.
func line(gen int, texts ...string) string {
	s, safe := "", 0
	for _, x := range texts {
		switch x[0] {
		case 'M':
			s += part(4, gen, len(s), "")
			safe = len(s)
		default:
			s += part(strings.IndexByte(" BRE", x[0]), gen, safe, x[1:])
		}
	}
	return s
}

// P10.1: what stands on the devices.

func TestLimits(t *testing.T) {
	if journal.MaxRecord != maxRecord {
		t.Errorf("MaxRecord is %d", journal.MaxRecord)
	}
}

func TestOpenOfEmptyDevices(t *testing.T) {
	a, b := holding(t, ""), holding(t, "")
	j := wantOpen(t, "empty devices", a, b, 1)
	wantBytes(t, "the first", a, "")
	wantBytes(t, "the second", b, line(1, "B", "E", "M"))
	if j.Size() != b.Len() {
		t.Errorf("the size is %d, not %d", j.Size(), b.Len())
	}
}

func TestExample(t *testing.T) {
	a, b := holding(t, ""), holding(t, "")
	j := wantOpen(t, "empty devices", a, b, 1)
	done(t, "Put", j.Put("x"))
	a.Crash(0, "")
	b.Crash(0, "")
	wantOpen(t, "behind a crash", a, b, 1, "x")
}

func TestWhatPutPuts(t *testing.T) {
	a, b := holding(t, ""), holding(t, "")
	j := wantOpen(t, "empty devices", a, b, 1)
	parts := []string{"B", "E", "M"}
	for _, l := range [][]string{{"x"}, {""}, {"a", "bc", "", "a"}, {"\x00\x01\xff"}, {strings.Repeat("z", maxRecord)}} {
		done(t, "Put", j.Put(l...))
		for _, s := range l {
			parts = append(parts, "R"+s)
		}
		parts = append(parts, "M")
		wantBytes(t, "the spare one", a, "")
		wantBytes(t, "the present one", b, line(1, parts...))
		if j.Size() != b.Len() || j.Gen() != 1 {
			t.Errorf("size %d, generation %d", j.Size(), j.Gen())
		}
	}
	size := b.Len()
	wantOpen(t, "again", a, b, 1, "x", "", "a", "bc", "", "a", "\x00\x01\xff", strings.Repeat("z", maxRecord))
	if b.Len() != size {
		t.Error("behind a Mark Open puts something")
	}
}

func TestWhatStartPuts(t *testing.T) {
	a, b := holding(t, ""), holding(t, "")
	j := wantOpen(t, "empty devices", a, b, 1)
	done(t, "Put", j.Put("old"))
	elder := must(b)
	done(t, "Start", j.Start("new", "", "er"))
	newer := line(2, "B", "Rnew", "R", "Rer", "E", "M")
	wantBytes(t, "the elder one", b, elder)
	wantBytes(t, "the newer one", a, newer)
	if j.Gen() != 2 || j.Size() != len(newer) {
		t.Errorf("generation %d, size %d", j.Gen(), j.Size())
	}
	done(t, "Put", j.Put("more"))
	newer = line(2, "B", "Rnew", "R", "Rer", "E", "M", "Rmore", "M")
	wantBytes(t, "the elder one", b, elder)
	wantBytes(t, "the newer one", a, newer)
	j = wantOpen(t, "again", a, b, 2, "new", "", "er", "more")
	done(t, "Start", j.Start())
	wantBytes(t, "the elder one", a, newer)
	wantBytes(t, "the third one", b, line(3, "B", "E", "M"))
	wantOpen(t, "again", a, b, 3)
}

func TestPlacesAreWhatWasSafe(t *testing.T) {
	a, b := holding(t, ""), holding(t, "")
	j := wantOpen(t, "empty devices", a, b, 1)
	s := must(b)
	// What another one appended isn't safe.
	done(t, "Append", b.Append("\x00\x00"))
	done(t, "Put", j.Put("x"))
	s += "\x00\x00" + part(2, 1, len(s), "x")
	s += part(4, 1, len(s), "")
	wantBytes(t, "the present one", b, s)
}

// P10.1: Open's errors.

func TestOpenRefuses(t *testing.T) {
	good, off := holding(t, ""), down(t)
	bad := func() *block.Disk { return holding(t, "\x00"+part(2, 1, 1, "")) }
	wantNone(t, "one device", good, good, api.ErrArg)
	wantNone(t, "one device that is down", off, off, api.ErrArg)
	one := bad()
	wantNone(t, "one device that is corrupt", one, one, api.ErrArg)
	for name, d := range map[string]*block.Disk{"down": off, "nil": nil} {
		wantNone(t, "the first is "+name, d, good, api.ErrDown)
		wantNone(t, "the second is "+name, good, d, api.ErrDown)
		wantNone(t, "the first is "+name+", the second corrupt", d, bad(), api.ErrDown)
		wantNone(t, "the second is "+name+", the first corrupt", bad(), d, api.ErrDown)
	}
	wantNone(t, "both are down", off, down(t), api.ErrDown)
	wantNone(t, "one is down, one nil", off, nil, api.ErrDown)
	wantNone(t, "the first is corrupt", bad(), good, api.ErrCorrupt)
	wantNone(t, "the second is corrupt", good, bad(), api.ErrCorrupt)
	wantNone(t, "both are corrupt", bad(), bad(), api.ErrCorrupt)
	if good.Len() != 0 {
		t.Error("a call that is refused changes something")
	}
}

func TestOpenOfOneNilTwice(t *testing.T) {
	j, l, err := journal.Open(nil, nil)
	if j != nil || len(l) != 0 || err == nil {
		t.Errorf("Open of nil and nil is %v, %q, %v", j, l, err)
	}
	wantPlace(t, "nil and nil", err, 0)
}

// P10.1: parts.

func TestWhatIsAPart(t *testing.T) {
	whole := line(4, "B", "Rx", "E", "M")
	long := strings.Repeat("y", maxRecord)
	for name, c := range map[string]struct {
		payload string
		want    []string
	}{
		"a record":                       {payload(2, 4, 0, "y"), []string{"x", "y"}},
		"an empty one":                   {payload(2, 4, 0, ""), []string{"x", ""}},
		"the longest one":                {payload(2, 4, 0, long), []string{"x", long}},
		"one with the greatest place":    {payload(2, 4, maxNum, "y"), []string{"x", "y"}},
		"a mark with the greatest place": {payload(4, 4, maxNum, ""), []string{"x"}},
	} {
		s := whole + framed(c.payload)
		d := holding(t, s)
		wantOpen(t, name, d, holding(t, ""), 4, c.want...)
		if !strings.HasPrefix(must(d), s) {
			t.Errorf("%s is cut off", name)
		}
	}
}

func TestWhatIsNoPart(t *testing.T) {
	whole := line(4, "B", "Rx", "E", "M")
	for name, s := range map[string]string{
		"nothing":                        framed(""),
		"the kind 0":                     part(0, 4, 0, ""),
		"the kind 5":                     part(5, 4, 0, ""),
		"the kind 6":                     part(6, 4, 0, "y"),
		"the kind 258":                   part(258, 4, 0, "y"),
		"the generation 0":               part(2, 0, 0, "y"),
		"a generation that is too great": part(2, maxNum+1, 0, "y"),
		"a place that is too great":      part(2, 4, maxNum+1, "y"),
		"the greatest place":             part(2, 4, 1<<62-1, "y"),
		"a record that is too long":      part(2, 4, 0, strings.Repeat("y", maxRecord+1)),
		"a begin with a text":            part(1, 4, 0, "y"),
		"an end with a text":             part(3, 4, 0, "y"),
		"a mark with a text":             part(4, 4, 0, "y"),
		"a byte too many":                framed(payload(2, 4, 0, "y") + "\x00"),
		"a byte too few":                 framed(num(2) + num(4) + num(0) + num(2) + "y"),
		"no text":                        framed(num(2) + num(4) + num(0)),
		"no place":                       framed(num(2) + num(4)),
		"a number in another form":       framed("\x82\x00" + num(4) + num(0) + num(1) + "y"),
		"a generation in another form":   framed(num(2) + "\x84\x00" + num(0) + num(1) + "y"),
		"a place in another form":        framed(num(2) + num(4) + "\x80\x00" + num(1) + "y"),
		"a size in another form":         framed(num(2) + num(4) + num(0) + "\x81\x00y"),
		"bare bytes":                     payload(2, 4, 0, "y"),
		"a frame that is cut":            part(2, 4, 0, "y")[:20],
		"a frame with a nought":          part(2, 4, 0, "y")[:20] + "\x00" + part(2, 4, 0, "y")[21:],
	} {
		for _, behind := range []string{"", part(2, 4, 0, "z"), part(2, 4, len(whole), "z"), part(4, 4, len(whole), "")} {
			d := holding(t, whole+s+behind)
			wantOpen(t, name, d, holding(t, ""), 4, "x")
			wantBytes(t, name, d, whole)
			// At the beginning, there is no Begin then.
			d, e := holding(t, s), holding(t, "")
			wantOpen(t, name, d, e, 1)
			wantBytes(t, name, e, line(1, "B", "E", "M"))
		}
	}
}

// P10.1: devices that are whole.

func TestWhatIsWhole(t *testing.T) {
	for _, c := range []struct {
		kinds string
		want  []string
	}{
		{"BE", nil}, {"BEM", nil}, {"BEMM", nil}, {"BRE", []string{"1"}}, {"BRREM", []string{"1", "2"}},
		{"BER", []string{"2"}}, {"BREMR", []string{"1", "4"}}, {"BRERMRRMMRM", []string{"1", "3", "5", "6", "9"}}, {"BEMRR", []string{"3", "4"}},
	} {
		for _, gen := range []int{1, 2, 77, maxNum} {
			s := ""
			for i, k := range c.kinds {
				text := ""
				if k == 'R' {
					text = strconv.Itoa(i)
				}
				s += part(strings.IndexRune(" BREM", k), gen, i, text)
			}
			marked := s
			if !strings.HasSuffix(c.kinds, "M") {
				marked += part(4, gen, len(s), "")
			}
			d, e := holding(t, s), holding(t, "")
			j := wantOpen(t, c.kinds, d, e, gen, c.want...)
			wantBytes(t, c.kinds, d, marked)
			wantBytes(t, c.kinds, e, "")
			if j.Size() != len(marked) {
				t.Errorf("%s: the size is %d", c.kinds, j.Size())
			}
			d = holding(t, s)
			j = wantOpen(t, c.kinds, e, d, gen, c.want...)
			wantBytes(t, c.kinds, d, marked)
			if j.Size() != len(marked) {
				t.Errorf("%s: the size is %d", c.kinds, j.Size())
			}
		}
	}
}

func TestWhatIsNotWhole(t *testing.T) {
	fresh := line(1, "B", "E", "M")
	for _, kinds := range []string{
		"", "B", "E", "M", "R", "EM", "RE", "REM", "BR", "BRR", "BM", "BME", "BMEM", "BRMEM", "MBEM", "RBEM", "EBEM",
		"BBE", "BBEM", "BREB", "BEMB", "BEMBEM", "BEE", "BEME", "BEREM", "BERE",
	} {
		s := ""
		for _, k := range kinds {
			s += part(strings.IndexRune(" BREM", k), 3, 0, "")
		}
		d, e := holding(t, s), holding(t, "")
		wantOpen(t, kinds, d, e, 1)
		wantBytes(t, kinds, d, s)
		wantBytes(t, kinds, e, fresh)
		d, e = holding(t, s), holding(t, "")
		wantOpen(t, kinds, e, d, 1)
		wantBytes(t, kinds, e, "")
		wantBytes(t, kinds, d, fresh)
		// Beside one that is whole it counts for nothing, whatever its generation.
		d, e = holding(t, s), holding(t, line(2, "B", "Rx", "E", "M"))
		wantOpen(t, kinds, d, e, 2, "x")
		wantOpen(t, kinds, e, d, 2, "x")
	}
}

func TestOneGenerationAlone(t *testing.T) {
	for i := range 4 {
		s := ""
		for k, kind := range []int{1, 2, 3, 4} {
			gen := 7
			if k == i {
				gen = 8
			}
			s += part(kind, gen, 0, "")
		}
		e := holding(t, "")
		wantOpen(t, "of two generations", holding(t, s), e, 1)
		wantBytes(t, "of two generations", e, line(1, "B", "E", "M"))
	}
}

func TestTheGreaterGenerationIsPresent(t *testing.T) {
	for _, c := range []struct{ a, b, want int }{{1, 2, 2}, {2, 1, 2}, {5, 9, 9}, {maxNum, 1, maxNum}, {maxNum - 1, maxNum, maxNum}, {3, 3, 3}, {maxNum, maxNum, maxNum}} {
		a, b := holding(t, line(c.a, "B", "Ra", "E", "M")), holding(t, line(c.b, "B", "Rbb", "E", "M"))
		record, present := "a", a
		if c.b > c.a {
			record, present = "bb", b
		}
		j := wantOpen(t, "two that are whole", a, b, c.want, record)
		if j.Size() != present.Len() {
			t.Errorf("of %d and %d the size is %d", c.a, c.b, j.Size())
		}
		if c.want < maxNum {
			done(t, "Start", j.Start("c"))
			wantBytes(t, "the present one", present, line(c.want, "B", "R"+record, "E", "M"))
		}
	}
}

// P10.1: what is corrupt.

func TestWhatIsCorrupt(t *testing.T) {
	whole := line(4, "B", "Rx", "E", "M")
	p := len(whole)
	for name, c := range map[string]struct {
		behind  string
		corrupt bool
	}{
		"a place above":                        {"?" + part(2, 4, p+1, "y"), true},
		"the greatest place":                   {"?" + part(2, 4, maxNum, "y"), true},
		"the place itself":                     {"?" + part(2, 4, p, "y"), false},
		"a place below":                        {"?" + part(2, 4, p-1, "y"), false},
		"a mark":                               {"?" + part(4, 4, p+1, ""), true},
		"a begin":                              {"?" + part(1, 4, p+1, ""), true},
		"an end":                               {"?" + part(3, 4, p+1, ""), true},
		"of another generation":                {"?" + part(2, 9, p+1, ""), true},
		"behind noughts":                       {strings.Repeat("\x00", 500) + part(4, 4, p+1, ""), true},
		"behind other parts":                   {"?" + part(2, 4, p, "y") + part(2, 4, 0, "z") + part(4, 4, p+1, ""), true},
		"behind the byte of a beginning":       {"\x01" + part(4, 4, p+1, ""), true},
		"behind many of these":                 {strings.Repeat("\x01@@@", 99) + part(4, 4, p+1, ""), true},
		"behind a frame that is cut":           {part(2, 4, p, "y")[:30] + part(4, 4, p+1, ""), true},
		"behind a frame that is no part":       {framed("no part") + part(4, 4, p+1, ""), true},
		"a frame that is no part":              {"?" + framed(payload(5, 4, p+1, "")), false},
		"a part that is too long":              {"?" + part(2, 4, p+1, strings.Repeat("y", maxRecord+1)), false},
		"a place that is too great":            {"?" + part(2, 4, maxNum+1, ""), false},
		"a part that is cut":                   {"?" + part(4, 4, p+1, "")[:28], false},
		"a part of which a byte is lost":       {"?" + part(4, 4, p+1, "")[:11] + "\x00" + part(4, 4, p+1, "")[12:], false},
		"two places above, the first one lost": {"?" + part(4, 4, p+1, "")[1:] + part(4, 4, p+9, ""), true},
		"nothing":                              {"", false},
	} {
		d, e := holding(t, whole+c.behind), holding(t, "")
		if c.corrupt {
			wantNone(t, name, d, e, api.ErrCorrupt)
			wantNone(t, name, e, d, api.ErrCorrupt)
			wantBytes(t, name, d, whole+c.behind)
			wantBytes(t, name, e, "")
			continue
		}
		wantOpen(t, name, d, e, 4, "x")
		wantBytes(t, name, d, whole)
		// From the device's beginning on, no place is below that.
		wantNone(t, name, holding(t, "?"+part(2, 1, 1, "")), d, api.ErrCorrupt)
		wantOpen(t, name, holding(t, "?"+part(2, 9, 0, "")), d, 4, "x")
	}
}

func TestPlacesOfPartsThatStandInOrderAreNotAsked(t *testing.T) {
	s := part(1, 4, 9, "") + part(2, 4, 5000, "x") + part(3, 4, maxNum, "") + part(4, 4, maxNum, "")
	d := holding(t, s)
	wantOpen(t, "places of all kinds", d, holding(t, ""), 4, "x")
	wantBytes(t, "places of all kinds", d, s)
}

func TestACorruptDeviceWhosePlaceWasTaken(t *testing.T) {
	lost := "?" + part(4, 3, maxNum, "")
	for name, c := range map[string]struct {
		corrupt, other string
		excused        bool
	}{
		"the other is of a greater generation":       {line(3, "B", "E", "M") + lost, line(4, "B", "Rx", "E", "M"), true},
		"a Begin alone":                              {line(3, "B") + lost, line(4, "B", "Rx", "E", "M"), true},
		"behind the Begin another generation":        {line(3, "B") + line(9, "E") + lost, line(4, "B", "Rx", "E", "M"), true},
		"the other is of the same generation":        {line(3, "B", "E", "M") + lost, line(3, "B", "E", "M"), false},
		"the other is of a lesser generation":        {line(3, "B", "E", "M") + lost, line(2, "B", "E", "M"), false},
		"the other isn't whole":                      {line(3, "B", "E", "M") + lost, line(4, "B", "Rx"), false},
		"the other is empty":                         {line(3, "B", "E", "M") + lost, "", false},
		"the other is corrupt, too":                  {line(3, "B", "E", "M") + lost, line(4, "B", "E", "M") + lost, false},
		"the first part is no Begin":                 {line(3, "E", "M") + lost, line(4, "B", "E", "M"), false},
		"the first part is a Record":                 {line(3, "R", "B", "E", "M") + lost, line(4, "B", "E", "M"), false},
		"there is no first part":                     {lost, line(4, "B", "E", "M"), false},
		"the other is whole, and has a torn end":     {line(3, "B", "E", "M") + lost, line(4, "B", "Rx", "E", "M") + "\x00\x00", true},
		"the Begin is of the other's generation":     {line(4, "B") + lost, line(4, "B", "E", "M"), false},
		"the Begin is of a generation that is above": {line(5, "B") + lost, line(4, "B", "E", "M"), false},
	} {
		for _, swap := range []bool{false, true} {
			a, b := holding(t, c.corrupt), holding(t, c.other)
			d := a
			if swap {
				a, b = b, a
			}
			if !c.excused {
				wantNone(t, name, a, b, api.ErrCorrupt)
				continue
			}
			j := wantOpen(t, name, a, b, 4, "x")
			wantBytes(t, name, d, c.corrupt)
			done(t, "Start", j.Start("y"))
			wantBytes(t, name, d, line(5, "B", "Ry", "E", "M"))
			wantOpen(t, name, a, b, 5, "y")
		}
	}
}

// P10.1: what Open does on the present device.

func TestOpenMakesAMark(t *testing.T) {
	s := line(4, "B", "Rx", "E", "M", "Ry")
	torn := "\x00" + part(2, 4, 0, "z")
	for _, c := range []struct {
		bytes string
		fuse  int
		want  string
	}{
		{s, -1, s + part(4, 4, len(s), "")}, {s, 3, s + part(4, 4, len(s), "")}, {s + torn, 4, s + part(4, 4, len(s), "")},
		{line(4, "B", "Rx", "E", "Ry", "M"), 0, line(4, "B", "Rx", "E", "Ry", "M")},
		{line(4, "B", "Rx", "E", "Ry", "M") + torn, 1, line(4, "B", "Rx", "E", "Ry", "M")},
	} {
		d := holding(t, c.bytes)
		d.Fuse(c.fuse)
		j := wantOpen(t, "with a fuse", d, holding(t, ""), 4, "x", "y")
		wantBytes(t, "with a fuse", d, c.want)
		// The fuse was used up: that is all that was done.
		if c.fuse >= 0 {
			wantFault(t, "Put", j.Put("z"), api.ErrDown, 4)
		}
	}
	for _, c := range []struct {
		bytes string
		fuses int
	}{{s, 3}, {s + torn, 4}, {line(4, "B", "E", "M") + torn, 1}} {
		for fuse := range c.fuses {
			d := holding(t, c.bytes)
			d.Fuse(fuse)
			wantNone(t, "with a fuse that blows", d, holding(t, ""), api.ErrDown)
			if !d.Down() {
				t.Errorf("a fuse of %d doesn't blow", fuse)
			}
		}
	}
}

func TestOpenMakesAllSafe(t *testing.T) {
	d := holding(t, line(4, "B", "E", "M"))
	done(t, "Append", d.Append(part(2, 4, d.Safe(), "x")+part(2, 4, d.Safe(), "y")))
	s := must(d)
	wantOpen(t, "what isn't synced", d, holding(t, ""), 4, "x", "y")
	wantBytes(t, "what isn't synced", d, s+part(4, 4, len(s), ""))
}

func TestOpenWithoutRoomForAMark(t *testing.T) {
	marked := line(4, "B", "Rx", "E", "M", "Ry", "M")
	for _, behind := range []string{line(4, "Rz"), line(4, "Rz", "R", "Rzz")} {
		for _, torn := range []string{"", "\x00\x00"} {
			s := marked + behind
			mark := part(4, 4, len(s), "")
			for _, room := range []int{0, len(marked), len(s) - 1, len(s), len(s) + len(mark) - 1} {
				d := holding(t, s+torn)
				done(t, "Room", d.Room(room))
				j := wantOpen(t, "no room", d, holding(t, ""), 4, "x", "y")
				wantBytes(t, "no room", d, marked)
				done(t, "Room", d.Room(maxBlock))
				done(t, "Put", j.Put("more"))
				wantBytes(t, "no room", d, line(4, "B", "Rx", "E", "M", "Ry", "M", "Rmore", "M"))
			}
			d := holding(t, s+torn)
			done(t, "Room", d.Room(len(s)+len(mark)))
			if _, l, err := journal.Open(d, holding(t, "")); err != nil || l[len(l)-1] == "y" {
				t.Errorf("there is just room: %q, %v", l, err)
			}
			wantBytes(t, "just room", d, s+mark)
			// The fuse lets all be done but the last cut.
			d = holding(t, s+torn)
			done(t, "Room", d.Room(len(s)))
			d.Fuse(1 + min(len(torn), 1))
			wantNone(t, "a fuse ahead of the cut", d, holding(t, ""), api.ErrDown)
		}
	}
}

func TestOpenWithoutRoomForTheFirstMark(t *testing.T) {
	s := line(4, "B", "Rx", "E", "Ry")
	d := holding(t, s+"\x00")
	done(t, "Room", d.Room(len(s)+5))
	d.Fuse(2) // a cut and a sync
	j := wantOpen(t, "no Mark", d, holding(t, ""), 4, "x", "y")
	wantBytes(t, "no Mark", d, s)
	d.Fuse(-1)
	wantFault(t, "Put", j.Put("z"), api.ErrFull, 4)
	wantBytes(t, "no Mark", d, s)
	done(t, "Room", d.Room(maxBlock))
	done(t, "Put", j.Put("z"))
	s += part(2, 4, len(s), "z")
	wantBytes(t, "no Mark", d, s+part(4, 4, len(s), ""))
}

func TestOpenThatCannotStart(t *testing.T) {
	fresh := line(1, "B", "E", "M")
	for room := range len(fresh) {
		a, b := holding(t, ""), holding(t, "abc")
		done(t, "Room", b.Room(room))
		done(t, "Room", a.Room(0))
		wantNone(t, "no room", a, b, api.ErrFull)
		wantBytes(t, "no room", a, "")
		wantBytes(t, "no room", b, "")
	}
	for fuse := range 5 {
		a, b := holding(t, "abc"), holding(t, "abc")
		a.Fuse(0)
		b.Fuse(fuse)
		wantNone(t, "a fuse", a, b, api.ErrDown)
		wantBytes(t, "a fuse", a, "abc")
	}
	a, b := holding(t, "abc"), holding(t, "abc")
	a.Fuse(0)
	b.Fuse(5)
	done(t, "Room", b.Room(len(fresh)))
	j := wantOpen(t, "just enough", a, b, 1)
	wantBytes(t, "just enough", b, fresh)
	wantBytes(t, "just enough", a, "abc")
	b.Fuse(-1)
	wantFault(t, "Put", j.Put("x"), api.ErrFull, 1)
}

// P10.1: Put.

// fresh is a journal of generation 3 with the records x and y, its present device and the other one.
func fresh(t *testing.T) (*journal.Journal, *block.Disk, *block.Disk) {
	t.Helper()
	a, b := holding(t, ""), holding(t, line(3, "B", "Rx", "E", "M", "Ry", "M"))
	return wantOpen(t, "a journal", a, b, 3, "x", "y"), b, a
}

func TestPutOfNothing(t *testing.T) {
	j, d, e := fresh(t)
	s := must(d)
	d.Fuse(0)
	e.Fuse(0)
	done(t, "Put", j.Put())
	done(t, "Put", j.Put([]string{}...))
	wantBytes(t, "Put of nothing", d, s)
	done(t, "Room", d.Room(0))
	done(t, "Put", j.Put())
}

func TestPutOfTooMuch(t *testing.T) {
	j, d, e := fresh(t)
	s := must(d)
	d.Fuse(0)
	e.Fuse(0)
	long := strings.Repeat("x", maxRecord+1)
	for _, l := range [][]string{{long}, {"a", long}, {long, "a"}, {long + long}, make([]string, 401), make([]string, 5000), append(make([]string, 400), long)} {
		wantFault(t, "Put", j.Put(l...), api.ErrLong, 3)
		wantBytes(t, "Put of too much", d, s)
		wantBytes(t, "Put of too much", e, "")
	}
	d.Fuse(-1)
	done(t, "Put", j.Put(make([]string, 400)...))
	done(t, "Put", j.Put(strings.Repeat("x", maxRecord)))
	want := append([]string{"x", "y"}, make([]string, 400)...)
	wantOpen(t, "again", d, e, 3, append(want, strings.Repeat("x", maxRecord))...)
}

func TestPutWithAFuse(t *testing.T) {
	for fuse := range 4 {
		j, d, e := fresh(t)
		d.Fuse(fuse)
		wantFault(t, "Put", j.Put("z", "zz"), api.ErrDown, 3)
		if !d.Down() || e.Down() {
			t.Errorf("with a fuse of %d the wrong device is down", fuse)
		}
		wantOver(t, "a fuse blew", j)
		d.Crash(0, "")
		wantOver(t, "the power is on again", j)
		if j.Size() != d.Len() || j.Gen() != 3 {
			t.Errorf("size %d, generation %d", j.Size(), j.Gen())
		}
		want := []string{"x", "y", "z", "zz"}
		if fuse < 2 {
			want = want[:2] // nothing was safe
		}
		wantOpen(t, "again", d, e, 3, want...)
	}
	j, d, e := fresh(t)
	e.Fuse(0)
	d.Fuse(4)
	done(t, "Put", j.Put("z", "zz"))
	wantOpen(t, "again", d, e, 3, "x", "y", "z", "zz")
}

// P10.1: Start.

func TestStartOfTooMuch(t *testing.T) {
	j, d, e := fresh(t)
	s := must(d)
	d.Fuse(0)
	e.Fuse(0)
	long := strings.Repeat("x", maxRecord+1)
	for _, l := range [][]string{{long}, {"a", long}, {long, "a"}} {
		wantFault(t, "Start", j.Start(l...), api.ErrLong, 3)
		wantBytes(t, "Start of too much", d, s)
		wantBytes(t, "Start of too much", e, "")
	}
	e.Fuse(-1)
	many := make([]string, 5000)
	many[4999] = strings.Repeat("x", maxRecord)
	done(t, "Start", j.Start(many...))
	wantOpen(t, "again", d, e, 4, many...)
}

func TestStartOfVeryMany(t *testing.T) {
	j, d, e := fresh(t)
	s := must(d)
	wantFault(t, "Start", j.Start(make([]string, 1<<22)...), api.ErrFull, 3)
	wantBytes(t, "Start of very many", d, s)
	wantBytes(t, "Start of very many", e, "")
	long := append(make([]string, 1<<22), strings.Repeat("x", maxRecord+1))
	wantFault(t, "Start", j.Start(long...), api.ErrLong, 3)
	done(t, "Put", j.Put("z"))
}

// most is how many records of one byte there is room for in a Start.
func most() int {
	return (maxBlock - len(line(4, "B", "E", "M")) - 4) / len(line(4, "Rx"))
}

func TestStartOfAllThatThereIsRoomFor(t *testing.T) {
	l := strings.Split(strings.Repeat("x", most()), "")
	j, d, e := fresh(t)
	done(t, "Start", j.Start(l...))
	if left := maxBlock - e.Len(); left < 0 || left >= len(line(4, "Rx"))+8 {
		t.Errorf("the test is too weak: %d bytes are left", left)
	}
	wantOpen(t, "again", d, e, 4, l...)
}

func TestStartOfTheGreatestGeneration(t *testing.T) {
	d, e := holding(t, line(maxNum-1, "B", "Rx", "E", "M")), holding(t, "")
	j := wantOpen(t, "the last but one", d, e, maxNum-1, "x")
	done(t, "Start", j.Start("y"))
	if j.Gen() != maxNum {
		t.Errorf("the generation is %d", j.Gen())
	}
	s := must(d)
	for _, l := range [][]string{nil, {"z"}, {strings.Repeat("z", maxRecord+1)}} {
		d.Fuse(0)
		wantFault(t, "Start", j.Start(l...), api.ErrLong, maxNum)
	}
	wantBytes(t, "the elder one", d, s)
	wantBytes(t, "the present one", e, line(maxNum, "B", "Ry", "E", "M"))
	done(t, "Put", j.Put("z"))
	wantOpen(t, "again", d, e, maxNum, "y", "z")
}

func TestStartWithAFuse(t *testing.T) {
	for fuse := range 5 {
		j, d, e := fresh(t)
		s := must(d)
		e.Fuse(fuse)
		wantFault(t, "Start", j.Start("z", "zz"), api.ErrDown, 3)
		if d.Down() || !e.Down() {
			t.Errorf("with a fuse of %d the wrong device is down", fuse)
		}
		if j.Size() != len(s) || j.Gen() != 3 {
			t.Errorf("with a fuse of %d the size is %d, the generation %d", fuse, j.Size(), j.Gen())
		}
		wantOver(t, "a fuse blew", j)
		wantBytes(t, "the present one", d, s)
		e.Crash(0, "")
		wantOver(t, "the power is on again", j)
		if fuse < 3 {
			wantOpen(t, "again", d, e, 3, "x", "y") // nothing was safe
		} else {
			wantOpen(t, "again", d, e, 4, "z", "zz")
		}
	}
	j, d, e := fresh(t)
	d.Fuse(0)
	e.Fuse(5)
	done(t, "Start", j.Start("z", "zz"))
	wantOpen(t, "again", d, e, 4, "z", "zz")
}

// P10.1: a journal that is over, or never was.

func TestNilJournal(t *testing.T) {
	var j *journal.Journal
	wantOver(t, "nil", j)
	if j.Size() != 0 || j.Gen() != 0 {
		t.Errorf("size %d, generation %d", j.Size(), j.Gen())
	}
}

func TestJournalThatNobodyOpened(t *testing.T) {
	for _, f := range []func(j *journal.Journal) error{
		func(j *journal.Journal) error { return j.Put("x") },
		func(j *journal.Journal) error { return j.Start("x") },
	} {
		j := new(journal.Journal)
		if j.Size() != 0 || j.Gen() != 0 {
			t.Errorf("size %d, generation %d", j.Size(), j.Gen())
		}
		wantFault(t, "a journal that nobody opened", f(j), api.ErrDown, 0)
		wantOver(t, "a journal that nobody opened", j)
	}
}

func TestWhatIsRefusedDoesNotEndAJournal(t *testing.T) {
	j, d, e := fresh(t)
	for range 3 {
		wantFault(t, "Put", j.Put(make([]string, 401)...), api.ErrLong, 3)
		done(t, "Room", d.Room(d.Len()))
		wantFault(t, "Put", j.Put("z"), api.ErrFull, 3)
		done(t, "Room", e.Room(0))
		wantFault(t, "Start", j.Start("z"), api.ErrFull, 3)
		wantFault(t, "Start", j.Start(strings.Repeat("z", maxRecord+1)), api.ErrLong, 3)
	}
	done(t, "Room", d.Room(maxBlock))
	done(t, "Room", e.Room(maxBlock))
	done(t, "Put", j.Put("z"))
	done(t, "Start", j.Start("zz"))
	wantOpen(t, "again", d, e, 4, "zz")
}

func TestADeviceThatIsDown(t *testing.T) {
	j, d, _ := fresh(t)
	d.Fuse(0)
	d.Sync()
	if j.Size() != 0 || j.Gen() != 3 {
		t.Errorf("size %d, generation %d", j.Size(), j.Gen())
	}
	done(t, "Put of nothing", j.Put())
	wantFault(t, "Put", j.Put("z"), api.ErrDown, 3)
	wantOver(t, "the present one is down", j)
	j, _, e := fresh(t)
	e.Fuse(0)
	e.Sync()
	done(t, "Put", j.Put("z"))
	wantFault(t, "Start", j.Start("z"), api.ErrDown, 3)
	wantOver(t, "the spare one is down", j)
}

func TestListsAreNotKept(t *testing.T) {
	j, d, e := fresh(t)
	l := []string{"a", "b"}
	done(t, "Put", j.Put(l...))
	if !slices.Equal(l, []string{"a", "b"}) {
		t.Errorf("the list is %q now", l)
	}
	l[0] = "c"
	_, got, err := journal.Open(d, e)
	done(t, "Open", err)
	got[2] = "d"
	wantOpen(t, "again", d, e, 3, "x", "y", "a", "b")
}

// P10.4.

func TestPutWithoutRoom(t *testing.T) {
	_, d, _ := fresh(t)
	was := d.Len()
	need := was + len(part(2, 3, was, "z")+part(2, 3, was, "zz"))
	need += len(part(4, 3, need, ""))
	for room := range need + 2 {
		j, d, e := fresh(t)
		s := must(d)
		done(t, "Room", d.Room(room))
		done(t, "Room", e.Room(0))
		err := j.Put("z", "zz")
		if room >= need {
			done(t, "Put", err)
			wantOpen(t, "there was room", d, e, 3, "x", "y", "z", "zz")
			continue
		}
		wantFault(t, "Put", err, api.ErrFull, 3)
		wantBytes(t, "no room", d, s)
		wantBytes(t, "no room", e, "")
		if j.Size() != was || j.Gen() != 3 {
			t.Fatalf("size %d, generation %d", j.Size(), j.Gen())
		}
		wantOpen(t, "there was no room", d, e, 3, "x", "y")
		done(t, "Room", d.Room(maxBlock))
		done(t, "Put", j.Put("more"))
		wantOpen(t, "there is room now", d, e, 3, "x", "y", "more")
	}
}

func TestPutWithoutRoomThatCannotBeCut(t *testing.T) {
	_, d, _ := fresh(t)
	was := d.Len()
	for _, c := range []struct{ room, fuse int }{{was, 0}, {was + len(part(2, 3, was, "z")), 2}} {
		j, d, e := fresh(t)
		done(t, "Room", d.Room(c.room))
		d.Fuse(c.fuse)
		wantFault(t, "Put", j.Put("z"), api.ErrDown, 3)
		wantOver(t, "it can't be cut", j)
		d.Crash(0, "")
		// Of what was never acknowledged nothing is told where there is no room to acknowledge it.
		wantOpen(t, "again", d, e, 3, "x", "y")
		j, d, _ = fresh(t)
		done(t, "Room", d.Room(c.room))
		d.Fuse(c.fuse + 1)
		wantFault(t, "Put", j.Put("z"), api.ErrFull, 3)
		if d.Down() {
			t.Error("the fuse blew")
		}
	}
}

func TestStartWithoutRoom(t *testing.T) {
	newer := line(4, "B", "Rz", "E", "M")
	for room := range len(newer) + 2 {
		a, b := holding(t, line(2, "B", "Rold", "E", "M")), holding(t, line(3, "B", "Rx", "E", "M"))
		j := wantOpen(t, "two generations", a, b, 3, "x")
		done(t, "Room", a.Room(room))
		err := j.Start("z")
		if room >= len(newer) {
			done(t, "Start", err)
			wantBytes(t, "there was room", a, newer)
			wantOpen(t, "there was room", a, b, 4, "z")
			continue
		}
		wantFault(t, "Start", err, api.ErrFull, 3)
		wantBytes(t, "no room", a, "")
		wantBytes(t, "no room", b, line(3, "B", "Rx", "E", "M"))
		if j.Size() != b.Len() || j.Gen() != 3 {
			t.Fatalf("size %d, generation %d", j.Size(), j.Gen())
		}
		done(t, "Put", j.Put("more"))
		wantOpen(t, "there was no room", a, b, 3, "x", "more")
	}
}

func TestStartWithoutRoomThatCannotBeCut(t *testing.T) {
	for _, c := range []struct{ room, fuse int }{{0, 1}, {len(line(4, "B", "Rz", "E")), 3}} {
		j, d, e := fresh(t)
		done(t, "Room", e.Room(c.room))
		e.Fuse(c.fuse)
		wantFault(t, "Start", j.Start("z"), api.ErrDown, 3)
		wantOver(t, "it can't be cut", j)
		if j.Size() != d.Len() {
			t.Errorf("the size is %d", j.Size())
		}
		j, _, e = fresh(t)
		done(t, "Room", e.Room(c.room))
		e.Fuse(c.fuse + 1)
		wantFault(t, "Start", j.Start("z"), api.ErrFull, 3)
		if e.Down() {
			t.Error("the fuse blew")
		}
	}
}

func TestNoNumbersOutOfRange(t *testing.T) {
	// The greatest numbers that can stand in a part don't hurt.
	s := part(1, maxNum, maxNum, "") + part(3, maxNum, maxNum, "")
	d := holding(t, s+strings.Repeat("\x00", 3))
	wantOpen(t, "great numbers", d, holding(t, ""), maxNum)
	wantNone(t, "greater ones", holding(t, "?"+part(1, 1, maxNum, "")), d, api.ErrCorrupt)
	wantOpen(t, "no numbers at all", holding(t, "?"+part(1, 1, math.MaxInt64/2, "")), d, maxNum)
}
