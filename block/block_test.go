package block_test

import (
	"errors"
	"math"
	"slices"
	"strconv"
	"strings"
	"testing"

	"sojourn/api"
	"sojourn/block"
	"sojourn/fail"
)

const maxBlock = 1 << 20

// disk is a device that must be one.
func disk(t *testing.T, room int) *block.Disk {
	t.Helper()
	d, err := block.New(room)
	if d == nil || err != nil {
		t.Fatalf("New of %d is %v, %v", room, d, err)
	}
	return d
}

// holding is a device with room for 100 bytes that has the bytes safe, synced, and behind them the bytes loose.
func holding(t *testing.T, safe, loose string) *block.Disk {
	t.Helper()
	d := disk(t, 100)
	done(t, "Append", d.Append(safe))
	done(t, "Sync", d.Sync())
	done(t, "Append", d.Append(loose))
	return d
}

// done tells in the test if an error is one.
func done(t *testing.T, what string, err error) {
	t.Helper()
	if err != nil {
		t.Fatalf("%s is %v", what, err)
	}
}

// wantFault tells in the test if err doesn't wrap c, with the place "block" and at.
func wantFault(t *testing.T, what string, err error, c api.Code, at int) {
	t.Helper()
	where, n, ok := fail.Place(err)
	if !errors.Is(err, c) || fail.Number(err) != int(c) || where != "block" || n != at || !ok {
		t.Fatalf("%s: the error is %v (number %d), with the place %q %d, not one of number %d with the place %d", what, err, fail.Number(err), where, n, c, at)
	}
	if l := fail.Trail(err); !slices.Equal(l, []string{"block"}) {
		t.Fatalf("%s: the trail is %q", what, l)
	}
}

// wantBytes tells in the test if a device whose power is on doesn't have just these bytes, the first ones safe.
func wantBytes(t *testing.T, d *block.Disk, bytes string, safe int) {
	t.Helper()
	if d.Down() || d.Len() != len(bytes) || d.Safe() != safe {
		t.Fatalf("the device has %d bytes, %d of them safe, and that it is down is %t: not %d, %d of them safe", d.Len(), d.Safe(), d.Down(), len(bytes), safe)
	}
	if s, err := d.Read(0, len(bytes)); s != bytes || err != nil {
		t.Fatalf("the bytes are %q, %v, not %q", s, err, bytes)
	}
}

// wantDown tells in the test if a device doesn't do what one whose power is off does. It changes nothing.
func wantDown(t *testing.T, d *block.Disk) {
	t.Helper()
	if !d.Down() || d.Len() != 0 || d.Safe() != 0 {
		t.Fatalf("the power isn't off: Down is %t, Len %d, Safe %d", d.Down(), d.Len(), d.Safe())
	}
	for _, s := range []string{"", "x", strings.Repeat("x", maxBlock+1)} {
		wantFault(t, "Append", d.Append(s), api.ErrDown, 0)
	}
	wantFault(t, "Sync", d.Sync(), api.ErrDown, 0)
	for _, n := range []int{0, 1, -1, math.MinInt, math.MaxInt} {
		wantFault(t, "Cut", d.Cut(n), api.ErrDown, 0)
		if d.Rot(n, 1) {
			t.Fatalf("a byte is turned at %d", n)
		}
		for _, m := range []int{0, 1, -1, math.MinInt, math.MaxInt} {
			s, err := d.Read(n, m)
			if s != "" {
				t.Fatalf("with an error Read is %q", s)
			}
			wantFault(t, "Read", err, api.ErrDown, 0)
		}
	}
}

// P8.1: New.

func TestNew(t *testing.T) {
	for _, room := range []int{0, 1, 5, 1 << 10, maxBlock - 1, maxBlock} {
		d := disk(t, room)
		wantBytes(t, d, "", 0)
		wantFault(t, "Append of more than the room", d.Append(strings.Repeat("x", room+1)), api.ErrFull, 0)
		wantBytes(t, d, "", 0)
		full := strings.Repeat("y", room)
		done(t, "Append of the room", d.Append(full))
		wantBytes(t, d, full, 0)
		wantFault(t, "Append behind it", d.Append("x"), api.ErrFull, room)
		wantBytes(t, d, full, 0)
	}
}

func TestNewRefuses(t *testing.T) {
	for _, room := range []int{-1, -2, math.MinInt, maxBlock + 1, 2 * maxBlock, 1 << 32, 1<<32 + 1, math.MaxInt} {
		d, err := block.New(room)
		if d != nil {
			t.Errorf("New of %d is a device", room)
		}
		wantFault(t, "New", err, api.ErrArg, 0)
	}
}

func TestNewHasNoFuse(t *testing.T) {
	d := disk(t, maxBlock)
	for range 10000 {
		done(t, "Append", d.Append("x"))
		done(t, "Sync", d.Sync())
	}
	wantBytes(t, d, strings.Repeat("x", 10000), 10000)
}

func TestDevicesAreTheirOwn(t *testing.T) {
	a, b := disk(t, 10), disk(t, 10)
	done(t, "Append", a.Append("a"))
	a.Fuse(0)
	wantFault(t, "Sync", a.Sync(), api.ErrDown, 0)
	wantBytes(t, b, "", 0)
	done(t, "Append", b.Append("b"))
	wantBytes(t, b, "b", 0)
}

// P8.1: Append and Room.

func TestAppend(t *testing.T) {
	d := disk(t, 8)
	all := ""
	for _, s := range []string{"", "ab", "\x00", "", "\xff\x01c"} {
		done(t, "Append", d.Append(s))
		all += s
		wantBytes(t, d, all, 0)
	}
	wantFault(t, "Append of too much", d.Append("xyz"), api.ErrFull, 6)
	wantBytes(t, d, all, 0)
	done(t, "Append of what there is room for", d.Append("xy"))
	wantBytes(t, d, all+"xy", 0)
	wantFault(t, "Append of one more", d.Append("z"), api.ErrFull, 8)
	done(t, "Append of nothing", d.Append(""))
	wantBytes(t, d, all+"xy", 0)
}

func TestAppendOfVeryMany(t *testing.T) {
	d := disk(t, maxBlock)
	for range maxBlock {
		if d.Append("x") != nil {
			t.Fatal("there is no room")
		}
	}
	wantFault(t, "Append of one more", d.Append("x"), api.ErrFull, maxBlock)
	wantBytes(t, d, strings.Repeat("x", maxBlock), 0)
}

func TestRoom(t *testing.T) {
	d := holding(t, "abc", "de")
	done(t, "Room", d.Room(6))
	wantFault(t, "Append", d.Append("xy"), api.ErrFull, 5)
	done(t, "Append", d.Append("x"))
	wantFault(t, "Append", d.Append("y"), api.ErrFull, 6)
	done(t, "Room", d.Room(7))
	done(t, "Append", d.Append("y"))
	wantBytes(t, d, "abcdexy", 3)
}

func TestRoomForLessThanThereIs(t *testing.T) {
	d := holding(t, "abc", "de")
	done(t, "Room", d.Room(2))
	wantBytes(t, d, "abcde", 3)
	wantFault(t, "Append", d.Append("x"), api.ErrFull, 5)
	wantFault(t, "Append of nothing, where there is more than the room", d.Append(""), api.ErrFull, 5)
	done(t, "Sync", d.Sync())
	done(t, "Cut", d.Cut(4))
	wantFault(t, "Append", d.Append(""), api.ErrFull, 4)
	d.Crash(0, "")
	wantBytes(t, d, "abcd", 4)
	done(t, "Cut", d.Cut(2))
	done(t, "Append of nothing", d.Append(""))
	wantFault(t, "Append", d.Append("x"), api.ErrFull, 2)
	done(t, "Cut", d.Cut(1))
	done(t, "Append", d.Append("x"))
	wantBytes(t, d, "ax", 1)
}

func TestRoomRefuses(t *testing.T) {
	d := disk(t, 6)
	done(t, "Append", d.Append("abc"))
	for _, n := range []int{-1, -2, math.MinInt, maxBlock + 1, 2 * maxBlock, 1 << 32, math.MaxInt} {
		wantFault(t, "Room", d.Room(n), api.ErrArg, 3)
	}
	wantFault(t, "Append", d.Append("wxyz"), api.ErrFull, 3)
	done(t, "Append", d.Append("xyz"))
	done(t, "Room", d.Room(0))
	done(t, "Room", d.Room(maxBlock))
	done(t, "Append", d.Append(strings.Repeat("z", maxBlock-6)))
	wantFault(t, "Append", d.Append("z"), api.ErrFull, maxBlock)
}

func TestRoomWithThePowerOff(t *testing.T) {
	d := holding(t, "abc", "de")
	d.Fuse(0)
	wantFault(t, "Sync", d.Sync(), api.ErrDown, 0)
	wantFault(t, "Room", d.Room(-1), api.ErrArg, 0)
	wantFault(t, "Room", d.Room(maxBlock+1), api.ErrArg, 0)
	done(t, "Room", d.Room(4))
	wantDown(t, d)
	d.Crash(0, "")
	done(t, "Append", d.Append("x"))
	wantFault(t, "Append", d.Append("y"), api.ErrFull, 4)
}

// P8.1: Sync and Cut.

func TestSync(t *testing.T) {
	d := disk(t, 10)
	done(t, "Sync", d.Sync())
	wantBytes(t, d, "", 0)
	done(t, "Append", d.Append("ab"))
	wantBytes(t, d, "ab", 0)
	done(t, "Sync", d.Sync())
	wantBytes(t, d, "ab", 2)
	done(t, "Append", d.Append("cd"))
	wantBytes(t, d, "abcd", 2)
	done(t, "Append", d.Append("e"))
	wantBytes(t, d, "abcde", 2)
	done(t, "Sync", d.Sync())
	done(t, "Sync", d.Sync())
	wantBytes(t, d, "abcde", 5)
}

func TestCut(t *testing.T) {
	const all = "abcdef"
	for safe := 0; safe <= len(all); safe++ {
		for n := 0; n <= len(all); n++ {
			d := holding(t, all[:safe], all[safe:])
			done(t, "Cut", d.Cut(n))
			wantBytes(t, d, all[:n], min(safe, n))
			done(t, "Append", d.Append("XY"))
			wantBytes(t, d, all[:n]+"XY", min(safe, n))
		}
	}
}

func TestCutIsDurable(t *testing.T) {
	d := holding(t, "abcd", "ef")
	done(t, "Cut", d.Cut(2))
	d.Crash(99, "")
	wantBytes(t, d, "ab", 2)
	d = holding(t, "abcd", "ef")
	done(t, "Cut", d.Cut(5))
	d.Crash(0, "")
	wantBytes(t, d, "abcd", 4)
	d = holding(t, "abcd", "ef")
	done(t, "Cut", d.Cut(2))
	done(t, "Append", d.Append("XYZ"))
	d.Crash(1, "")
	wantBytes(t, d, "abX", 3)
}

func TestCutRefuses(t *testing.T) {
	d := holding(t, "abc", "de")
	for _, n := range []int{-1, -2, math.MinInt, 6, 7, 100, math.MaxInt} {
		wantFault(t, "Cut", d.Cut(n), api.ErrArg, 5)
		wantBytes(t, d, "abcde", 3)
	}
	done(t, "Cut", d.Cut(5))
	wantBytes(t, d, "abcde", 3)
	done(t, "Cut", d.Cut(0))
	wantFault(t, "Cut", d.Cut(1), api.ErrArg, 0)
	wantBytes(t, d, "", 0)
}

// P8.1: Read.

func TestRead(t *testing.T) {
	const all = "ab\x00\xffe"
	d := holding(t, all[:3], all[3:])
	numbers := []int{math.MinInt, -2, -1, 0, 1, 2, 3, 4, 5, 6, 7, math.MaxInt}
	for _, from := range numbers {
		for _, to := range numbers {
			s, err := d.Read(from, to)
			if 0 <= from && from <= to && to <= len(all) {
				if s != all[from:to] || err != nil {
					t.Errorf("Read of %d to %d is %q, %v", from, to, s, err)
				}
				continue
			}
			if s != "" {
				t.Errorf("with an error Read is %q", s)
			}
			wantFault(t, "Read", err, api.ErrArg, 5)
		}
	}
	wantBytes(t, d, all, 3)
}

func TestWhatWasReadStays(t *testing.T) {
	d := holding(t, "abcd", "")
	s, err := d.Read(0, 4)
	done(t, "Read", err)
	d.Rot(1, 0xff)
	done(t, "Cut", d.Cut(2))
	done(t, "Append", d.Append("XYZ"))
	d.Crash(0, "")
	if s != "abcd" {
		t.Errorf("what was read is %q now", s)
	}
}

// P8.1: Fuse and Down.

func TestFuse(t *testing.T) {
	operations := []func(d *block.Disk) error{
		func(d *block.Disk) error { return d.Append("x") },
		func(d *block.Disk) error { return d.Append("") },
		(*block.Disk).Sync,
		func(d *block.Disk) error { return d.Cut(2) },
		func(d *block.Disk) error { return d.Cut(d.Len()) },
	}
	for n := range 12 {
		for first := range operations {
			d := holding(t, "ab", "cd")
			d.Fuse(n)
			for i := range n {
				done(t, "an operation ahead of the fuse's end", operations[(first+i)%len(operations)](d))
			}
			s, err := d.Read(0, d.Len())
			done(t, "Read", err)
			safe := d.Safe()
			wantFault(t, "the next operation", operations[(first+n)%len(operations)](d), api.ErrDown, 0)
			wantDown(t, d)
			d.Crash(len(s)-safe, "")
			wantBytes(t, d, s, len(s))
		}
	}
}

func TestWhatIsRefusedDoesNotCount(t *testing.T) {
	refused := func(d *block.Disk) {
		t.Helper()
		for range 3 {
			wantFault(t, "Append", d.Append(strings.Repeat("x", 99)), api.ErrFull, d.Len())
			wantFault(t, "Cut", d.Cut(-1), api.ErrArg, d.Len())
			wantFault(t, "Cut", d.Cut(d.Len()+1), api.ErrArg, d.Len())
		}
	}
	for n := range 4 {
		d := holding(t, "ab", "cd")
		d.Fuse(n)
		refused(d)
		for range n {
			done(t, "Sync", d.Sync())
			refused(d)
		}
		wantFault(t, "Sync", d.Sync(), api.ErrDown, 0)
	}
}

func TestOnlyOperationsCount(t *testing.T) {
	d := holding(t, "ab", "cd")
	d.Fuse(1)
	for range 5 {
		wantBytes(t, d, "abcd", 2)
		_, err := d.Read(3, 2)
		wantFault(t, "Read", err, api.ErrArg, 4)
		done(t, "Room", d.Room(50))
		wantFault(t, "Room", d.Room(-1), api.ErrArg, 4)
		if !d.Rot(0, 1) || !d.Rot(0, 1) || d.Rot(9, 1) {
			t.Fatal("Rot")
		}
	}
	done(t, "Append", d.Append("e"))
	wantBytes(t, d, "abcde", 2)
	wantFault(t, "Append", d.Append("f"), api.ErrDown, 0)
}

func TestFuseIsSetAnew(t *testing.T) {
	d := disk(t, 100)
	d.Fuse(1)
	done(t, "Sync", d.Sync())
	d.Fuse(2)
	done(t, "Sync", d.Sync())
	done(t, "Sync", d.Sync())
	for _, n := range []int{-1, -2, math.MinInt} {
		d.Fuse(0)
		d.Fuse(n)
		for range 100 {
			done(t, "Sync without a fuse", d.Sync())
		}
	}
	d.Fuse(math.MaxInt)
	for range 100 {
		done(t, "Sync with a long fuse", d.Sync())
	}
	d.Fuse(0)
	wantFault(t, "Sync", d.Sync(), api.ErrDown, 0)
}

func TestFuseDoesNotTurnThePowerOn(t *testing.T) {
	for _, n := range []int{-1, 0, 1, 5} {
		d := holding(t, "ab", "cd")
		d.Fuse(0)
		wantFault(t, "Sync", d.Sync(), api.ErrDown, 0)
		d.Fuse(n)
		wantDown(t, d)
		d.Crash(1, "")
		wantBytes(t, d, "abc", 3)
		for range 10 {
			done(t, "Sync behind a crash, which leaves no fuse", d.Sync())
		}
	}
}

func TestPowerOffTouchesNoBytes(t *testing.T) {
	d := holding(t, "ab", "cd")
	d.Fuse(0)
	wantFault(t, "Cut", d.Cut(0), api.ErrDown, 0)
	wantDown(t, d)
	wantDown(t, d)
	d.Crash(2, "")
	wantBytes(t, d, "abcd", 4)
}

// P8.1: Crash.

func TestExamples(t *testing.T) {
	d := holding(t, "ab", "cd")
	d.Crash(1, "\x00")
	wantBytes(t, d, "ab\x00", 3)
	d = holding(t, "ab", "cd")
	d.Crash(2, "")
	wantBytes(t, d, "abcd", 4)
}

func TestCrashKeeps(t *testing.T) {
	const loose = "cdefg"
	for _, c := range []struct{ kept, stay int }{
		{0, 0}, {1, 1}, {4, 4}, {5, 5}, {6, 0}, {7, 1}, {11, 5}, {12, 0}, {605, 5},
		{-1, 5}, {-2, 4}, {-5, 1}, {-6, 0}, {-7, 5}, {-600, 0}, {-601, 5},
		{math.MaxInt, 1}, {math.MinInt, 4},
	} {
		d := holding(t, "ab", loose)
		d.Crash(c.kept, "")
		wantBytes(t, d, "ab"+loose[:c.stay], 2+c.stay)
	}
	for _, kept := range []int{0, 1, -1, 7, math.MaxInt, math.MinInt} {
		d := holding(t, "ab", "")
		d.Crash(kept, "\x00")
		wantBytes(t, d, "ab", 2)
		d = disk(t, 0)
		d.Crash(kept, "")
		wantBytes(t, d, "", 0)
		d = holding(t, "", "x")
		d.Crash(kept, "")
		wantBytes(t, d, "x"[:kept&1], kept&1)
	}
}

func TestCrashMasks(t *testing.T) {
	const loose = "cdefg"
	for _, c := range []struct{ mask, want string }{
		{"", "cdefg"},
		{"\x01", "cdefg"},
		{"\x00", "\x00\x00\x00\x00\x00"},
		{"\x02", "\x00\x00\x00\x00\x00"},
		{"\xff", "cdefg"},
		{"\xfe", "\x00\x00\x00\x00\x00"},
		{"\x80", "\x00\x00\x00\x00\x00"},
		{"\x81", "cdefg"},
		{"\x01\x00", "c\x00e\x00g"},
		{"\x00\x01", "\x00d\x00f\x00"},
		{"\x00\x01\x01", "\x00de\x00g"},
		{"13579", "cdefg"},
		{"12345", "c\x00e\x00g"},
		{"\x00\x00\x00\x00\x01", "\x00\x00\x00\x00g"},
		{"\x01\x00\x01\x01\x00\x01\x01", "c\x00ef\x00"},
	} {
		for kept := 0; kept <= len(loose); kept++ {
			d := holding(t, "ab", loose)
			d.Crash(kept, c.mask)
			wantBytes(t, d, "ab"+c.want[:kept], 2+kept)
		}
	}
}

func TestCrashLeavesAllSafe(t *testing.T) {
	d := holding(t, "ab", "cdef")
	d.Crash(3, "\x01\x00")
	wantBytes(t, d, "abc\x00e", 5)
	d.Crash(0, "\x00")
	wantBytes(t, d, "abc\x00e", 5)
	done(t, "Append", d.Append("fg"))
	wantBytes(t, d, "abc\x00efg", 5)
	d.Crash(1, "\x00\x01")
	wantBytes(t, d, "abc\x00e\x00", 6)
}

func TestCrashTakesTheFuseAndLeavesTheRoom(t *testing.T) {
	d := disk(t, 6)
	done(t, "Append", d.Append("ab"))
	d.Fuse(0)
	d.Crash(2, "")
	for range 20 {
		done(t, "Sync", d.Sync())
	}
	done(t, "Append", d.Append("cdef"))
	wantFault(t, "Append", d.Append("g"), api.ErrFull, 6)
	wantBytes(t, d, "abcdef", 2)
}

func TestCrashOfAGreatDevice(t *testing.T) {
	d := disk(t, maxBlock)
	done(t, "Append", d.Append(strings.Repeat("x", maxBlock)))
	d.Crash(maxBlock, "\x01\x00")
	wantBytes(t, d, strings.Repeat("x\x00", maxBlock/2), maxBlock)
}

// P8.1: Rot.

func TestRot(t *testing.T) {
	for by := range 256 {
		d := holding(t, "a\x00\xff", "de")
		for at := range 3 {
			if got := d.Rot(at, byte(by)); got != (by != 0) {
				t.Fatalf("that Rot turns by %d is %t", by, got)
			}
		}
		wantBytes(t, d, string([]byte{'a' ^ byte(by), byte(by), 0xff ^ byte(by)})+"de", 3)
	}
}

func TestRotOfWhatIsNotSafe(t *testing.T) {
	d := holding(t, "abc", "de")
	for _, at := range []int{-1, -2, math.MinInt, 3, 4, 5, 6, math.MaxInt} {
		if d.Rot(at, 1) {
			t.Errorf("a byte is turned at %d", at)
		}
	}
	wantBytes(t, d, "abcde", 3)
	done(t, "Sync", d.Sync())
	if !d.Rot(4, 1) || d.Rot(5, 1) {
		t.Error("it isn't the safe place that counts")
	}
	wantBytes(t, d, "abcdd", 5)
	done(t, "Cut", d.Cut(2))
	if d.Rot(2, 1) || !d.Rot(1, 1) {
		t.Error("what was cut counts")
	}
	wantBytes(t, d, "ac", 2)
}

func TestRotIsDurable(t *testing.T) {
	d := holding(t, "abc", "de")
	if !d.Rot(1, 0x80) {
		t.Fatal("nothing is turned")
	}
	d.Crash(0, "")
	wantBytes(t, d, "a\xe2c", 3)
	if !d.Rot(1, 0x80) {
		t.Fatal("nothing is turned")
	}
	wantBytes(t, d, "abc", 3)
}

// P8.1: a nil *Disk.

func TestNoDisk(t *testing.T) {
	var d *block.Disk
	wantDown(t, d)
	for _, n := range []int{0, 5, maxBlock, -1, maxBlock + 1} {
		wantFault(t, "Room", d.Room(n), api.ErrDown, 0)
		d.Fuse(n)
		d.Crash(n, "")
		d.Crash(n, "\x01")
		wantDown(t, d)
	}
}

// P8.1: every order of calls.

// cell is a byte of a device, and whether it is durable.
type cell struct {
	c       byte
	durable bool
}

// model is a device in the chapter's own words; its fuse is -1, if there is none.
type model struct {
	cells []cell
	room  int
	fuse  int
	off   bool
}

// operate is what the model answers to an operation, which is refused with a code, if that isn't 0: a code, or 0.
func (m *model) operate(refused api.Code, f func()) api.Code {
	switch {
	case m.off:
		return api.ErrDown
	case refused != 0:
		return refused
	case m.fuse == 0:
		m.off = true
		return api.ErrDown
	case m.fuse > 0:
		m.fuse--
	}
	f()
	return 0
}

// if1 is a code, if b holds.
func if1(b bool, c api.Code) api.Code {
	if b {
		return c
	}
	return 0
}

func (m *model) append(s string) api.Code {
	return m.operate(if1(len(m.cells)+len(s) > m.room, api.ErrFull), func() {
		for i := range len(s) {
			m.cells = append(m.cells, cell{c: s[i]})
		}
	})
}

func (m *model) sync() api.Code {
	return m.operate(0, func() {
		for i := range m.cells {
			m.cells[i].durable = true
		}
	})
}

func (m *model) cut(n int) api.Code {
	return m.operate(if1(n < 0 || n > len(m.cells), api.ErrArg), func() { m.cells = slices.Clone(m.cells[:n]) })
}

func (m *model) crash(kept int, mask string) {
	loose := len(m.cells) - m.safe()
	for kept < 0 {
		kept += loose + 1
	}
	for kept > loose {
		kept -= loose + 1
	}
	var l []cell
	for i, c := range m.cells {
		j := i - m.safe()
		if j >= kept {
			break
		}
		if j >= 0 && mask != "" && mask[j%len(mask)]&1 == 0 {
			c.c = 0
		}
		l = append(l, c)
	}
	*m = model{cells: l, room: m.room, fuse: -1}
	m.sync()
}

func (m *model) rot(at int, by byte) bool {
	if m.off || at < 0 || at >= m.safe() || by == 0 {
		return false
	}
	m.cells[at].c ^= by
	return true
}

// safe is how many cells are durable, which are the first ones.
func (m *model) safe() int {
	n := 0
	for _, c := range m.cells {
		if c.durable {
			n++
		}
	}
	return n
}

func (m *model) bytes() string {
	var b []byte
	for _, c := range m.cells {
		b = append(b, c.c)
	}
	return string(b)
}

// call is something that is asked of a device and of its model.
type call struct {
	name string
	ask  func(d *block.Disk, m *model) (got error, want api.Code)
}

func appends(s string) call {
	return call{"Append " + strconv.Quote(s), func(d *block.Disk, m *model) (error, api.Code) { return d.Append(s), m.append(s) }}
}

func syncs() call {
	return call{"Sync", func(d *block.Disk, m *model) (error, api.Code) { return d.Sync(), m.sync() }}
}

func cuts(n int) call {
	return call{"Cut " + strconv.Itoa(n), func(d *block.Disk, m *model) (error, api.Code) { return d.Cut(n), m.cut(n) }}
}

func rooms(n int) call {
	return call{"Room " + strconv.Itoa(n), func(d *block.Disk, m *model) (error, api.Code) {
		if n < 0 || n > maxBlock {
			return d.Room(n), api.ErrArg
		}
		m.room = n
		return d.Room(n), 0
	}}
}

func fuses(n int) call {
	return call{"Fuse " + strconv.Itoa(n), func(d *block.Disk, m *model) (error, api.Code) {
		m.fuse = max(n, -1)
		d.Fuse(n)
		return nil, 0
	}}
}

func crashes(kept int, mask string) call {
	return call{"Crash " + strconv.Itoa(kept) + " " + strconv.Quote(mask), func(d *block.Disk, m *model) (error, api.Code) {
		m.crash(kept, mask)
		d.Crash(kept, mask)
		return nil, 0
	}}
}

func rots(at int, by byte) call {
	return call{"Rot " + strconv.Itoa(at) + " " + strconv.Itoa(int(by)), func(d *block.Disk, m *model) (error, api.Code) {
		if got, want := d.Rot(at, by), m.rot(at, by); got != want {
			return errors.New("Rot is " + strconv.FormatBool(got)), 0
		}
		return nil, 0
	}}
}

// wantAlike tells in the test if a device and its model differ behind calls.
func wantAlike(t *testing.T, d *block.Disk, m *model, l []call) {
	t.Helper()
	names := func() []string {
		var n []string
		for _, c := range l {
			n = append(n, c.name)
		}
		return n
	}
	if m.off {
		s, err := d.Read(0, 0)
		if !d.Down() || d.Len() != 0 || d.Safe() != 0 || s != "" || !errors.Is(err, api.ErrDown) {
			t.Fatalf("behind %q: the power should be off, but Down is %t, Len %d, Safe %d, Read %q, %v", names(), d.Down(), d.Len(), d.Safe(), s, err)
		}
		return
	}
	s, err := d.Read(0, d.Len())
	if d.Down() || d.Safe() != m.safe() || s != m.bytes() || err != nil {
		t.Fatalf("behind %q: the bytes are %q, %v, %d of them safe, and Down is %t; they should be %q, %d of them safe", names(), s, err, d.Safe(), d.Down(), m.bytes(), m.safe())
	}
}

// play asks the calls of a device and of its model, and tells in the test where they differ.
func play(t *testing.T, room int, l []call) {
	t.Helper()
	d, m := disk(t, room), &model{room: room, fuse: -1}
	for i, c := range l {
		got, want := c.ask(d, m)
		at := 0
		if !m.off {
			at = len(m.cells)
		}
		where, n, ok := fail.Place(got)
		if fail.Number(got) != int(want) || ok != (want != 0) || ok && (where != "block" || n != at) {
			t.Fatalf("call %d, %s: the error is %v, with the place %q %d; its number should be %d, its place %d", i, c.name, got, where, n, want, at)
		}
		wantAlike(t, d, m, l[:i+1])
	}
}

func TestEveryOrderOfFewCalls(t *testing.T) {
	calls := []call{
		appends("ab"), appends(""), appends("\xffcde"), syncs(), cuts(1), cuts(3), rooms(1), rooms(-1),
		fuses(-1), fuses(0), fuses(1), crashes(1, ""), crashes(-1, "\x00\x01"), rots(1, 3),
	}
	var l []call
	var each func(more int)
	each = func(more int) {
		if more == 0 {
			play(t, 5, l)
			return
		}
		for _, c := range calls {
			l = append(l, c)
			each(more - 1)
			l = l[:len(l)-1]
		}
	}
	each(5)
}

// dice are numbers below n that look like any others, by a rule.
func dice(seed uint32) func(n int) int {
	return func(n int) int {
		seed = seed*1664525 + 1013904223
		return int(seed>>8) % n
	}
}

// some is a text of fewer than n bytes that look like any others.
func some(throw func(n int) int, n int) string {
	b := make([]byte, throw(n))
	for i := range b {
		b[i] = byte(throw(256))
	}
	return string(b)
}

// any1 is some call, whose numbers are mostly such as may be.
func any1(throw func(n int) int) call {
	switch throw(14) {
	case 0, 1, 2, 3:
		return appends(some(throw, 12))
	case 4, 5:
		return syncs()
	case 6, 7:
		return cuts(throw(44) - 2)
	case 8:
		return rooms(throw(60) - 2)
	case 9:
		return fuses(throw(12) - 3)
	case 10:
		return crashes(throw(100)-50, some(throw, 6))
	case 11:
		return crashes(throw(100), "")
	}
	return rots(throw(40)-1, byte(throw(3)))
}

func TestManyOrdersOfManyCalls(t *testing.T) {
	for seed := range uint32(2000) {
		throw := dice(seed)
		var l []call
		for range 100 {
			l = append(l, any1(throw))
		}
		play(t, 40, l)
	}
}

// P8.2.

// texts are all texts of up to n bytes, each one of l.
func texts(n int, l string) []string {
	all := []string{""}
	for from := 0; n > 0; n-- {
		to := len(all)
		for _, s := range all[from:to] {
			for i := range len(l) {
				all = append(all, s+l[i:i+1])
			}
		}
		from = to
	}
	return all
}

func TestWhatWasSyncedIsThereBehindAnyCrash(t *testing.T) {
	masks := texts(4, "\x00\x01\xfe\xff")
	for _, off := range []bool{false, true} {
		for loose := range 5 {
			found := map[string]int{}
			for kept := -7; kept <= 7; kept++ {
				for _, mask := range masks {
					d := holding(t, "safe", "LOST"[:loose])
					if off {
						d.Fuse(0)
						wantFault(t, "Sync", d.Sync(), api.ErrDown, 0)
					}
					d.Crash(kept, mask)
					s, err := d.Read(0, d.Len())
					done(t, "Read", err)
					wantBytes(t, d, s, len(s))
					if !strings.HasPrefix(s, "safe") || len(s) > 4+loose {
						t.Fatalf("behind Crash(%d, %q) there is %q", kept, mask, s)
					}
					for i := range len(s) - 4 {
						if c := s[4+i]; c != "LOST"[i] && c != 0 {
							t.Fatalf("behind Crash(%d, %q) there is %q", kept, mask, s)
						}
					}
					found[s]++
				}
			}
			// Each byte that is there may be what it was or 0, whichever the others are.
			if want := 1<<(loose+1) - 1; len(found) != want {
				t.Errorf("of %d bytes that weren't synced crashes leave %d different texts, not %d", loose, len(found), want)
			}
		}
	}
}

func TestManyCrashesTakeNothingThatIsSafe(t *testing.T) {
	for seed := range uint32(200) {
		throw := dice(seed)
		d := disk(t, maxBlock)
		safe := ""
		for range 50 {
			s := some(throw, 20)
			done(t, "Append", d.Append(s))
			switch throw(4) {
			case 0:
				done(t, "Sync", d.Sync())
			case 1:
				n := throw(len(safe) + 1)
				done(t, "Cut", d.Cut(n))
				safe = safe[:n]
			case 2:
				// The power goes off ahead of a sync, which makes nothing safe.
				d.Fuse(0)
				wantFault(t, "Sync", d.Sync(), api.ErrDown, 0)
			}
			if !d.Down() && d.Safe() == d.Len() {
				safe, _ = d.Read(0, d.Len())
			}
			d.Crash(throw(1000)-500, some(throw, 5))
			all, err := d.Read(0, d.Len())
			done(t, "Read", err)
			if !strings.HasPrefix(all, safe) {
				t.Fatalf("behind a crash there is %q; what was safe is %q", all, safe)
			}
			safe = all
		}
	}
}
