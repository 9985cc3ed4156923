package journal_test

import (
	"errors"
	"slices"
	"strconv"
	"strings"
	"testing"

	"sojourn/api"
	"sojourn/block"
	"sojourn/fail"
	"sojourn/journal"
)

// act is a Put or a Start that is asked for.
type act struct {
	start bool
	l     []string
}

// do asks for it.
func (a act) do(j *journal.Journal) error {
	if a.start {
		return j.Start(a.l...)
	}
	return j.Put(a.l...)
}

// known is what may be told of a journal: what lasts, and what was under way when the power went.
type known struct {
	lasts []string
	under act
}

// after is what lasts when an act was acknowledged.
func (k known) after(a act) []string {
	if a.start {
		return slices.Clone(a.l)
	}
	return slices.Concat(k.lasts, a.l)
}

// may tells whether these records may be told.
func (k known) may(l []string) bool {
	if k.under.start {
		return slices.Equal(l, k.lasts) || slices.Equal(l, k.under.l)
	}
	n := len(k.lasts)
	return len(l) >= n && len(l) <= n+len(k.under.l) && slices.Equal(l[:n], k.lasts) && slices.Equal(l[n:], k.under.l[:len(l)-n])
}

// scripts are acts on a journal that is new.
func scripts() [][]act {
	return [][]act{
		nil,
		{{false, []string{"x"}}},
		{{false, []string{"x", "yy", ""}}, {false, []string{"z"}}},
		{{true, []string{"a", "b"}}, {false, []string{"c"}}},
		{{false, []string{"x"}}, {true, nil}, {false, []string{"y", "z"}}},
		{{false, []string{"x"}}, {true, []string{"s", "t"}}, {true, []string{"u"}}, {false, []string{"v"}}},
	}
}

// devices are two that are empty, with a fuse in one of them.
func devices(t *testing.T, which, fuse int) [2]*block.Disk {
	l := [2]*block.Disk{holding(t, ""), holding(t, "")}
	l[which].Fuse(fuse)
	return l
}

// run plays a script till the power goes, and tells what may be told then.
func run(t *testing.T, l [2]*block.Disk, script []act) known {
	t.Helper()
	var k known
	j, _, err := journal.Open(l[0], l[1])
	for _, a := range script {
		if err != nil {
			break
		}
		if err = a.do(j); err == nil {
			k.lasts = k.after(a)
		} else {
			k.under = a
		}
	}
	if err != nil && !errors.Is(err, api.ErrDown) {
		t.Fatalf("a script ends with %v", err)
	}
	return k
}

// masks are which bytes a crash leaves.
func masks() []string {
	return []string{"", "\x00", "\x01\x00", "\x00\x01", "\x01\x01\x01\x01\x01\x01\x01\x00", strings.Repeat("\x01", 29) + "\x00", strings.Repeat("\x00", 29) + strings.Repeat("\x01", 29), strings.Repeat("\x01", 60) + "\x00"}
}

// wantKnown opens, and tells in the test if it doesn't tell what may be told.
func wantKnown(t *testing.T, what string, l [2]*block.Disk, k known) (*journal.Journal, []string) {
	t.Helper()
	j, got, err := journal.Open(l[0], l[1])
	if err != nil || !k.may(got) {
		t.Fatalf("%s: Open is %q, %v; %q lasts, under way is %v", what, got, err, k.lasts, k.under)
	}
	return j, got
}

// loose is more than how many bytes ever wait for a sync in a script: a Begin, two Records of a byte and an End are the most.
const loose = 130

// crashed crashes both devices.
func crashed(l [2]*block.Disk, kept int, mask string) {
	for _, d := range l {
		d.Crash(kept, mask)
	}
}

// P10.2.

func TestAnyCrash(t *testing.T) {
	if n := len(line(9, "B", "Rs", "Rt", "E")); n >= loose {
		t.Fatalf("%d bytes may wait for a sync", n)
	}
	kinds := map[string]int{}
	for n, script := range scripts() {
		for which := range 2 {
			for fuse := range 30 {
				probe := devices(t, which, fuse)
				run(t, probe, script)
				if !probe[which].Down() {
					break
				}
				for kept := range loose {
					for _, mask := range masks() {
						l := devices(t, which, fuse)
						k := run(t, l, script)
						crashed(l, kept, mask)
						what := "script " + strconv.Itoa(n) + ", a fuse of " + strconv.Itoa(fuse) + ", kept " + strconv.Itoa(kept)
						j, got := wantKnown(t, what, l, k)
						kinds[strconv.FormatBool(k.under.start)+strconv.Itoa(len(got)-len(k.lasts))]++
						goOn(t, what, l, j, got)
					}
				}
			}
		}
	}
	for _, s := range []string{"false0", "false1", "false2", "false3", "true0", "true1", "true-1", "true2"} {
		if kinds[s] == 0 {
			t.Errorf("the test is too weak: %v", kinds)
		}
	}
}

// goOn puts more, and tells in the test if that isn't there behind another crash.
func goOn(t *testing.T, what string, l [2]*block.Disk, j *journal.Journal, got []string) {
	t.Helper()
	done(t, what+": Put", j.Put("more"))
	crashed(l, 1, "\x00")
	wantKnown(t, what+", and another crash", l, known{lasts: append(got, "more")})
}

func TestACrashInOpen(t *testing.T) {
	script := []act{{false, []string{"x"}}, {true, []string{"s", "t"}}, {false, []string{"u", "v"}}}
	for which := range 2 {
		for first := range 14 {
			for second := range 6 {
				for kept := 0; kept < loose; kept += 7 {
					for _, mask := range masks()[:4] {
						l := devices(t, which, first)
						k := run(t, l, script)
						for _, fuse := range []int{second, second / 2} {
							crashed(l, kept, mask)
							l[0].Fuse(fuse)
							l[1].Fuse(fuse)
							if _, got, err := journal.Open(l[0], l[1]); err == nil && !k.may(got) {
								t.Fatalf("Open is %q; %q lasts, under way is %v", got, k.lasts, k.under)
							} else if err == nil {
								k = known{lasts: got}
							}
						}
						crashed(l, kept, mask)
						j, got := wantKnown(t, "behind three crashes", l, k)
						goOn(t, "behind three crashes", l, j, got)
					}
				}
			}
		}
	}
}

// disturb gives the devices fuses and rooms, by chance.
func disturb(throw func(n int) int, l [2]*block.Disk) {
	for _, d := range l {
		switch throw(6) {
		case 0:
			d.Fuse(throw(12))
		case 1:
			d.Room(d.Len() + throw(200))
		case 2:
			d.Room(maxBlock)
		}
	}
}

// reopen crashes both devices and opens them, till it works, and tells in the test if what it tells may not be.
func reopen(t *testing.T, throw func(n int) int, l [2]*block.Disk, k known) (*journal.Journal, known) {
	t.Helper()
	for {
		for _, d := range l {
			d.Crash(throw(1000), masks()[throw(len(masks()))])
		}
		disturb(throw, l)
		j, got, err := journal.Open(l[0], l[1])
		switch {
		case err == nil && !k.may(got):
			t.Fatalf("Open is %q; %q lasts, under way is %v", got, k.lasts, k.under)
		case err == nil:
			return j, known{lasts: got}
		case !errors.Is(err, api.ErrDown) && !(errors.Is(err, api.ErrFull) && len(k.lasts) == 0):
			t.Fatalf("Open is %v", err)
		}
	}
}

func TestManyCrashes(t *testing.T) {
	codes := map[int]int{}
	for seed := range uint32(1500) {
		throw := dice(seed)
		l := [2]*block.Disk{holding(t, ""), holding(t, "")}
		j, k := reopen(t, throw, l, known{})
		for n := range 80 {
			disturb(throw, l)
			a := act{start: throw(5) == 0}
			for i := range throw(4) {
				a.l = append(a.l, strconv.Itoa(n)+"-"+strconv.Itoa(i))
			}
			gen := j.Gen()
			err := a.do(j)
			codes[fail.Number(err)]++
			switch {
			case err == nil && a.start && j.Gen() != gen+1:
				t.Fatalf("behind a Start the generation is %d, not %d", j.Gen(), gen+1)
			case err == nil:
				k.lasts = k.after(a)
			case errors.Is(err, api.ErrDown):
				k.under = a
			}
			if errors.Is(err, api.ErrDown) || throw(10) == 0 {
				j, k = reopen(t, throw, l, k)
			}
		}
	}
	if codes[0] < 1000 || codes[int(api.ErrFull)] < 1000 || codes[int(api.ErrDown)] < 1000 || len(codes) != 3 {
		t.Errorf("the test is too weak: %v", codes)
	}
}

// P10.3.

// stood is devices on which journals stand, the present one first.
func stood(t *testing.T) map[string][2]string {
	t.Helper()
	all := map[string][2]string{
		"as Open makes it":             {line(1, "B", "E", "M"), ""},
		"beside one that isn't whole":  {line(2, "B", "Rx", "E", "M"), line(3, "B", "Ry")},
		"beside one of lesser numbers": {line(7, "B", "Rx", "E", "Ry", "M", "R", "M"), line(6, "B", "Rzz", "E", "M")},
		"beside one that is alike":     {line(7, "B", "Rx", "E", "Ry", "M", "R", "M"), line(7, "B", "Rzz", "E")},
		"with records behind the Mark": {line(7, "B", "Rx", "E", "M", "Ry", "Rz"), ""},
		"with bytes behind the Mark":   {line(7, "B", "Rx", "E", "M") + "\x00\x01\x00", ""},
		"with a torn part behind it":   {line(7, "B", "Rx", "E", "M") + line(7, "Rlong", "Rlonger")[:70], ""},
		"with the byte 01 in a record": {line(7, "B", "R\x01\x01", "E", "M", "R\x01\x02\x03\x04", "M"), ""},
		"with two Marks at the end":    {line(7, "B", "E", "M", "M"), ""},
	}
	j, d, e := fresh(t)
	done(t, "Put", j.Put("z"))
	done(t, "Start", j.Start("a", "b"))
	done(t, "Put", j.Put("c"))
	all["as Put and Start make them"] = [2]string{must(e), must(d)}
	return all
}

// lastMark is the place of the last Mark in bytes.
func lastMark(s string) int {
	place := -1
	for _, p := range accountOf(s).pieces {
		if p.kind == 4 {
			place = p.place
		}
	}
	return place
}

func TestEachByteThatWasTurned(t *testing.T) {
	for name, l := range stood(t) {
		end := lastMark(l[0])
		if end <= 0 {
			t.Fatalf("%s: there is no Mark", name)
		}
		d, e := holding(t, l[0]), holding(t, l[1])
		for at := range end {
			turns := []byte{1, 2, 8, 0x40, 0x80, 0xff, l[0][at], l[0][at] ^ 1, l[0][at] ^ 0x40}
			if end < 100 {
				turns = nil
				for by := range 255 {
					turns = append(turns, byte(by+1))
				}
			}
			for _, by := range turns {
				if by == 0 {
					continue
				}
				if !d.Rot(at, by) {
					t.Fatal("a byte isn't turned")
				}
				wantNone(t, name, d, e, api.ErrCorrupt)
				wantNone(t, name, e, d, api.ErrCorrupt)
				d.Rot(at, by)
			}
		}
		wantBytes(t, name, d, l[0])
		wantBytes(t, name, e, l[1])
		if _, _, err := journal.Open(d, e); err != nil {
			t.Errorf("%s: without a byte that was turned Open is %v", name, err)
		}
	}
}

func TestBytesThatWereTurnedOfALongJournal(t *testing.T) {
	j, d, e := fresh(t)
	for i := range 60 {
		done(t, "Put", j.Put(strings.Repeat(strconv.Itoa(i), i), "", strconv.Itoa(i)))
	}
	end := lastMark(must(d))
	if end < 10000 {
		t.Fatalf("the journal has %d bytes alone", end)
	}
	for at := 0; at < end; at += 7 {
		for _, by := range []byte{1, 0x41, 0xff} {
			d.Rot(at, by)
			wantNone(t, "a byte is turned", d, e, api.ErrCorrupt)
			d.Rot(at, by)
		}
	}
}

func TestTheLastMarkIsNotReliedUpon(t *testing.T) {
	s := line(7, "B", "Rx", "E", "M", "Ry", "M")
	for at := lastMark(s); at < len(s); at++ {
		for _, by := range []byte{1, 0x41, 0xff, s[at]} {
			d := holding(t, s)
			d.Rot(at, by)
			wantOpen(t, "its Mark is lost", d, holding(t, ""), 7, "x", "y")
			wantBytes(t, "its Mark is lost", d, s)
		}
	}
}
