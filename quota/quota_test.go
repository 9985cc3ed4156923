package quota_test

import (
	"errors"
	"fmt"
	"math"
	"math/big"
	"regexp"
	"slices"
	"strconv"
	"strings"
	"testing"

	"sojourn/api"
	"sojourn/fail"
	"sojourn/quota"
	"sojourn/reg"
	"sojourn/store"
)

// The limits, as the document has them.
const (
	maxRegions = 16
	maxNum     = 1 << 40
	maxOpen    = 32
	maxKeys    = 16
	maxKey     = 32
)

// dice are numbers below n that look like any others, by a rule.
func dice(seed uint32) func(n int) int {
	return func(n int) int {
		seed = seed*1664525 + 1013904223
		return int(seed>>8) % n
	}
}

// put is a write of a value at a time of region 1.
func put(time int, session, key, value string) api.Write {
	return api.Write{Region: 1, Number: time, Stamp: api.Stamp{Time: time, Region: 1}, Session: session, Key: key, Value: value}
}

// gone is a write of a deletion at a time of region 1.
func gone(time int, session, key string) api.Write {
	w := put(time, session, key, "")
	w.Gone = true
	return w
}

// with is a store that writes were applied to.
func with(l ...api.Write) *store.Store {
	s := store.New()
	for _, w := range l {
		s.Apply(w)
	}
	return s
}

// opened is a store in which these sessions live.
func opened(sessions ...string) *store.Store {
	s := store.New()
	for _, session := range sessions {
		s.Apply(put(1, session, "", "ann"))
	}
	return s
}

// filled is a store in which the session lives, with n keys.
func filled(session string, n int) *store.Store {
	s := opened(session)
	for i := range n {
		s.Apply(put(2, session, key(i), "v"))
	}
	return s
}

// key is the i-th of many keys.
func key(i int) string {
	return "k" + strconv.Itoa(i)
}

// named are the names of n sessions of a region, from the number first on.
func named(region, first, n int) []string {
	var l []string
	for i := range n {
		l = append(l, fmt.Sprintf("%d-%d", region, first+i))
	}
	return l
}

// wantError tells in the test if err isn't one of the code, with the place "quota" and 0.
func wantError(t *testing.T, err error, code api.Code) {
	t.Helper()
	if !errors.Is(err, code) || fail.Number(err) != int(code) {
		t.Fatalf("the error is %v, not %v", err, code)
	}
	if where, n, ok := fail.Place(err); where != "quota" || n != 0 || !ok {
		t.Fatalf("the place of %v is %q %d %t, not \"quota\" 0", err, where, n, ok)
	}
}

// wantCode tells in the test if err isn't one of the code; the code 0 is no error.
func wantCode(t *testing.T, what string, err error, code api.Code) {
	t.Helper()
	if code == 0 {
		if err != nil {
			t.Fatalf("%s is %v", what, err)
		}
		return
	}
	if err == nil {
		t.Fatalf("%s is no error, not %v", what, code)
	}
	wantError(t, err, code)
}

// wantName tells in the test if a text isn't read as the name of a region and a number, or not written so.
func wantName(t *testing.T, name string, region, number int) {
	t.Helper()
	if got, err := quota.Name(region, number); got != name || err != nil {
		t.Fatalf("Name(%d, %d) is %q, %v, not %q", region, number, got, err, name)
	}
	if r, n, err := quota.Parse(name); r != region || n != number || err != nil {
		t.Fatalf("Parse(%q) is %d, %d, %v, not %d, %d", name, r, n, err, region, number)
	}
}

// wantNoName tells in the test if a text is taken for a name.
func wantNoName(t *testing.T, name string) {
	t.Helper()
	r, n, err := quota.Parse(name)
	if r != 0 || n != 0 || err == nil {
		t.Fatalf("Parse(%q) is %d, %d, %v", name, r, n, err)
	}
	wantError(t, err, api.ErrForm)
}

// wantOpens tells in the test if a region hasn't so many sessions, or no room where it must have it.
func wantOpens(t *testing.T, s *store.Store, region, want int) {
	t.Helper()
	if got := quota.Opens(s, region); got != want {
		t.Fatalf("Opens of the region %d is %d, not %d", region, got, want)
	}
	code := api.Code(0)
	if want >= maxOpen {
		code = api.ErrFull
	}
	wantCode(t, fmt.Sprintf("Room of the region %d with %d sessions", region, want), quota.Room(s, region), code)
}

// wantFits tells in the test if Fits isn't an error of the code; the code 0 is no error.
func wantFits(t *testing.T, s *store.Store, session, key string, code api.Code) {
	t.Helper()
	wantCode(t, fmt.Sprintf("Fits(%q, %q)", session, key), quota.Fits(s, session, key), code)
}

// The model: the chapter's own words, over what a store tells of all its cells.

var (
	nameForm  = regexp.MustCompile(`\A([1-9][0-9]*)-([1-9][0-9]*)\z`)
	manyForms = []string{"", "-", "--", "1", "1-", "-1", "1--1", "1-1-1", "1-1-", "-1-1", " 1-1", "1 -1", "1- 1", "1-1 ", "1-1\n", "1-1\x00", "\x001-1",
		"0-1", "1-0", "0-0", "00-1", "1-00", "01-1", "1-01", "001-1", "1-001", "010-1", "1-010", "+1-1", "1-+1", "1--1", "-1--1",
		"1.0-1", "1-1.0", "1e1-1", "1-1e1", "0x1-1", "1-0x1", "0b1-1", "0o1-1", "1_0-1", "1-1_0", "1,0-1", "a-1", "1-a", "x", "1:1", "1_1", "1.1", "1/1",
		"1\u20131", "1\u22121", "\u0661-1", "1-\u0661", "\uff11-1", "1-\uff11", "1\uff0d1", "\xff-1", "1-\xff", "\xc3-1",
		"17-1", "20-1", "99-1", "100-1", "116-1", "160-1", "1-1099511627777", "1-1099511627780", "1-1999999999999", "1-9999999999999", "1-10995116277760",
		"4294967297-1", "1-4294967297x", "18446744073709551617-1", "1-18446744073709551617", "9223372036854775808-1", "1-9223372036854775808",
		"9223372036854775807-1", "1-9223372036854775807", "340282366920938463463374607431768211457-1", "1-340282366920938463463374607431768211457"}
)

// meant is the region and the number of a name, or that it is none.
func meant(name string) (int, int, bool) {
	m := nameForm.FindStringSubmatch(name)
	if m == nil {
		return 0, 0, false
	}
	region, _ := new(big.Int).SetString(m[1], 10)
	number, _ := new(big.Int).SetString(m[2], 10)
	if region.Cmp(big.NewInt(maxRegions)) > 0 || number.Cmp(big.NewInt(maxNum)) > 0 {
		return 0, 0, false
	}
	return int(region.Int64()), int(number.Int64()), true
}

// wantMeant tells in the test if Parse answers anything else than the model.
func wantMeant(t *testing.T, name string) {
	t.Helper()
	region, number, ok := meant(name)
	if !ok {
		wantNoName(t, name)
		return
	}
	wantName(t, name, region, number)
}

// visible tells whether a cell is.
func visible(c reg.Cell) bool {
	return c.Stamp.Time > 0 && !c.Gone
}

// headed are the sessions whose head is visible, each with how many other cells are visible.
func headed(l []store.Row) map[string]int {
	m := map[string]int{}
	for _, r := range l {
		if r.Key == "" && visible(r.Cell) {
			m[r.Session] = 0
		}
	}
	for _, r := range l {
		if _, lives := m[r.Session]; lives && r.Key != "" && visible(r.Cell) {
			m[r.Session]++
		}
	}
	return m
}

// opens is how many of the sessions that live a region made.
func opens(l []store.Row, region int) int {
	n := 0
	for session := range headed(l) {
		if made, _, ok := meant(session); ok && made == region {
			n++
		}
	}
	return n
}

// fits is the code of the error, or 0.
func fits(l []store.Row, session, key string) api.Code {
	if len(key) < 1 || len(key) > maxKey {
		return api.ErrArg
	}
	n, lives := headed(l)[session]
	if !lives {
		return api.ErrGone
	}
	shown := slices.ContainsFunc(l, func(r store.Row) bool { return r.Session == session && r.Key == key && visible(r.Cell) })
	if n >= maxKeys && !shown {
		return api.ErrFull
	}
	return 0
}

// P17.1: Name and Parse.

func TestExample(t *testing.T) {
	wantName(t, "2-10", 2, 10)
	wantNoName(t, "02-1")
}

func TestTheLimits(t *testing.T) {
	if api.MaxRegions != maxRegions || api.MaxNum != maxNum || api.MaxOpen != maxOpen || api.MaxKeys != maxKeys || api.MaxKey != maxKey {
		t.Error("the limits aren't the document's")
	}
}

func TestNameAtItsEdges(t *testing.T) {
	regions := []int{math.MinInt, math.MinInt + 1, -maxNum, -17, -16, -1, 0, 1, 2, 9, 10, 15, 16, 17, 32, 256, 257, 1 << 16, 1<<32 + 1, maxNum, math.MaxInt}
	numbers := []int{math.MinInt, math.MinInt + 1, -maxNum - 1, -maxNum, -10, -1, 0, 1, 2, 9, 10, 99, 100, 1<<31 - 1, 1 << 31, 1<<32 - 1, 1 << 32, 1<<32 + 1,
		maxNum - 1, maxNum, maxNum + 1, 2 * maxNum, math.MaxInt - 1, math.MaxInt}
	for _, region := range regions {
		for _, number := range numbers {
			if region >= 1 && region <= maxRegions && number >= 1 && number <= maxNum {
				wantName(t, fmt.Sprintf("%d-%d", region, number), region, number)
				continue
			}
			name, err := quota.Name(region, number)
			if name != "" || err == nil {
				t.Fatalf("Name(%d, %d) is %q, %v", region, number, name, err)
			}
			wantError(t, err, api.ErrArg)
			wantNoName(t, fmt.Sprintf("%d-%d", region, number))
		}
	}
}

func TestNamesOfAllRegions(t *testing.T) {
	throw := dice(3)
	for region := 1; region <= maxRegions; region++ {
		for number := 1; number <= 2000; number++ {
			wantName(t, fmt.Sprintf("%d-%d", region, number), region, number)
		}
		for power := 1; power <= maxNum; power *= 2 {
			number := power + throw(power)%(maxNum-power+1)
			wantName(t, fmt.Sprintf("%d-%d", region, number), region, number)
		}
		for power := 10; power < maxNum; power *= 10 {
			wantName(t, fmt.Sprintf("%d-%d", region, power-1), region, power-1)
			wantName(t, fmt.Sprintf("%d-%d", region, power), region, power)
		}
	}
}

func TestParseOfWhatIsNoName(t *testing.T) {
	for _, name := range manyForms {
		wantNoName(t, name)
	}
}

func TestParseOfAllShortTexts(t *testing.T) {
	letters, names := "0167-+ ", 0
	var walk func(name string)
	walk = func(name string) {
		wantMeant(t, name)
		if _, _, ok := meant(name); ok {
			names++
		}
		if len(name) == 6 {
			return
		}
		for i := range len(letters) {
			walk(name + letters[i:i+1])
		}
	}
	walk("")
	if names < 500 {
		t.Errorf("the test is too weak: %d", names)
	}
}

func TestParseOfNamesWithAnotherByte(t *testing.T) {
	for _, name := range []string{"1-1", "2-10", "16-1", "9-1099511627776", "16-1099511627776", "10-999999999999"} {
		for at := range len(name) + 1 {
			for b := range 256 {
				wantMeant(t, name[:at]+string([]byte{byte(b)})+name[at:])
				if at < len(name) {
					wantMeant(t, name[:at]+string([]byte{byte(b)})+name[at+1:])
				}
			}
			for to := at; to <= len(name); to++ {
				wantMeant(t, name[at:to])
				wantMeant(t, name[:at]+name[to:])
				wantMeant(t, name[:to]+name[at:])
			}
		}
	}
}

// Numbers are told by their worth, however many digits they have, and never by what is left of it in 64 bits.
func TestParseOfLongNumbers(t *testing.T) {
	for digits := range 60 {
		for _, number := range []string{strings.Repeat("9", digits), "1" + strings.Repeat("0", digits), "1" + strings.Repeat("0", digits) + "1"} {
			wantMeant(t, "1-"+number)
			wantMeant(t, number+"-1")
			wantMeant(t, number+"-"+number)
		}
	}
	for _, bits := range []uint{31, 32, 40, 41, 48, 62, 63, 64, 65, 96, 128, 192} {
		for _, add := range []int64{-1, 0, 1, 2, 16, maxNum} {
			n := new(big.Int).Lsh(big.NewInt(1), bits)
			n.Add(n, big.NewInt(add))
			wantMeant(t, "1-"+n.String())
			wantMeant(t, n.String()+"-1")
		}
	}
	const long = 1 << 20
	for _, name := range []string{
		"1-" + strings.Repeat("1", long), strings.Repeat("1", long) + "-1", "1-" + strings.Repeat("0", long) + "1",
		strings.Repeat("0", long) + "1-1", strings.Repeat("-", long), strings.Repeat("1-", long), "1-1" + strings.Repeat(" ", long),
	} {
		wantNoName(t, name)
	}
}

// P17.1: Opens and Room.

func TestOpens(t *testing.T) {
	s := with(
		put(1, "1-1", "", "ann"), put(1, "1-2", "", ""), put(1, "1-1099511627776", "", "bob"), put(2, "1-1", "a", "x"), gone(2, "1-2", "a"),
		put(1, "2-1", "", "ann"),
		put(1, "11-1", "", "ann"), put(1, "11-2", "", "ann"),
		put(1, "16-1", "", "ann"),
		gone(9, "1-3", ""), put(1, "1-3", "", "ann"), put(1, "1-3", "a", "x"),
		put(1, "1-4", "a", "x"),
		gone(1, "3-1", ""),
		put(1, "4-1", "a", "x"),
	)
	for region, want := range map[int]int{1: 3, 2: 1, 11: 2, 16: 1} {
		wantOpens(t, s, region, want)
	}
	for _, region := range []int{math.MinInt, -1, 0, 3, 4, 5, 6, 10, 12, 15, 17, 111, math.MaxInt} {
		wantOpens(t, s, region, 0)
	}
}

// A session whose name is none is nobody's, also if it lives.
func TestOpensOfSessionsWithoutAName(t *testing.T) {
	s := opened(manyForms...)
	for region := -2; region <= 200; region++ {
		wantOpens(t, s, region, 0)
	}
	for _, region := range []int{math.MinInt, maxNum, math.MaxInt} {
		wantOpens(t, s, region, 0)
	}
	s.Apply(put(1, "1-1", "", "ann"))
	wantOpens(t, s, 1, 1)
	wantOpens(t, s, 0, 0)
}

func TestOpensFollowsTheHead(t *testing.T) {
	s := store.New()
	for _, c := range []struct {
		w    api.Write
		want int
	}{
		{put(1, "3-7", "a", "x"), 0},
		{put(2, "3-7", "", "ann"), 1},
		{put(3, "3-7", "", "ann"), 1},
		{gone(4, "3-7", "a"), 1},
		{gone(2, "3-7", ""), 1},
		{gone(5, "3-7", ""), 0},
		{put(4, "3-7", "", "ann"), 0},
		{put(6, "3-7", "a", "x"), 0},
		{put(6, "3-7", "", "ann"), 1},
	} {
		s.Apply(c.w)
		wantOpens(t, s, 3, c.want)
		wantOpens(t, s, 7, 0)
	}
	// A head without a time above 0 isn't visible.
	s = with(put(0, "3-7", "", "ann"), put(-1, "3-8", "", "ann"))
	wantOpens(t, s, 3, 0)
}

func TestRoomAtItsEdge(t *testing.T) {
	for region := 1; region <= maxRegions; region++ {
		s := store.New()
		for i, session := range named(region, maxNum-2*maxOpen, 2*maxOpen) {
			wantOpens(t, s, region, i)
			s.Apply(put(1, session, "", "ann"))
			s.Apply(put(1, session, "a", "x"))
			s.Apply(put(1, fmt.Sprintf("%d-%d", region, i+1), "a", "without a head"))
		}
		wantOpens(t, s, region, 2*maxOpen)
		for other := -1; other <= maxRegions+1; other++ {
			if other != region {
				wantOpens(t, s, other, 0)
			}
		}
	}
}

// What is over makes room again; what other regions made takes none.
func TestRoomAgain(t *testing.T) {
	s := opened(append(named(1, 1, maxOpen), named(11, 1, maxOpen-1)...)...)
	wantOpens(t, s, 1, maxOpen)
	wantOpens(t, s, 11, maxOpen-1)
	s.Apply(gone(2, "1-5", ""))
	wantOpens(t, s, 1, maxOpen-1)
	s.Apply(put(1, "1-99", "", "bob"))
	wantOpens(t, s, 1, maxOpen)
	s.Sweep(9)
	wantOpens(t, s, 1, maxOpen)
	for _, session := range s.Lives() {
		s.Apply(gone(3, session, ""))
	}
	wantOpens(t, s, 1, 0)
	wantOpens(t, s, 11, 0)
}

func TestManySessions(t *testing.T) {
	const each = 2000
	s := store.New()
	for region := 1; region <= maxRegions; region++ {
		for _, session := range named(region, 1, each+region) {
			s.Apply(put(1, session, "", "ann"))
		}
	}
	for region := 1; region <= maxRegions; region++ {
		wantOpens(t, s, region, each+region)
	}
}

// P17.1: Fits.

func TestFits(t *testing.T) {
	s := with(
		put(1, "1-1", "", "ann"), put(2, "1-1", "a", "x"), gone(3, "1-1", "b"),
		gone(9, "1-2", ""), put(2, "1-2", "a", "x"),
		put(2, "1-3", "a", "x"),
		put(1, "1-4", "", ""),
		put(1, "", "", "ann"), put(1, "what is no name", "", "ann"),
		put(0, "1-5", "", "ann"), put(-1, "1-6", "", "ann"),
	)
	for _, c := range []struct {
		session, key string
		code         api.Code
	}{
		{"1-1", "a", 0},
		{"1-1", "b", 0},
		{"1-1", "c", 0},
		{"1-1", "a\x00", 0},
		{"1-1", "\xff", 0},
		{"1-1", " ", 0},
		{"1-4", "a", 0},
		{"", "a", 0},
		{"what is no name", "a", 0},
		{"1-2", "a", api.ErrGone},
		{"1-2", "b", api.ErrGone},
		{"1-3", "a", api.ErrGone},
		{"1-3", "b", api.ErrGone},
		{"1-5", "a", api.ErrGone},
		{"1-6", "a", api.ErrGone},
		{"1-7", "a", api.ErrGone},
		{"01-1", "a", api.ErrGone},
		{"1-1\x00", "a", api.ErrGone},
		// The key is asked ahead of the session.
		{"1-1", "", api.ErrArg},
		{"1-2", "", api.ErrArg},
		{"1-3", "", api.ErrArg},
		{"1-7", "", api.ErrArg},
		{"", "", api.ErrArg},
		{"1-7", strings.Repeat("k", maxKey+1), api.ErrArg},
	} {
		wantFits(t, s, c.session, c.key, c.code)
	}
}

// A key's bytes count, and not its letters, whether the session lives and is full or not.
func TestFitsOfLongKeys(t *testing.T) {
	long := map[string]bool{}
	for n := range 100 {
		long[strings.Repeat("k", n)] = n > maxKey
	}
	long[strings.Repeat("\u00e9", 16)] = false
	long[strings.Repeat("\u00e9", 16)+"k"] = true
	long[strings.Repeat("\u00e9", 17)] = true
	long[strings.Repeat("\u20ac", 10)] = false
	long[strings.Repeat("\u20ac", 11)] = true
	long[strings.Repeat("\xff", 32)] = false
	long[strings.Repeat("\xff", 33)] = true
	long[strings.Repeat("\x00", 33)] = true
	long[strings.Repeat("k", 256)] = true
	long[strings.Repeat("k", 256+5)] = true
	long[strings.Repeat("k", 1<<20)] = true
	for k, is := range long {
		is = is || k == ""
		for _, c := range []struct {
			s    *store.Store
			code api.Code
		}{
			{opened("1-1"), 0},
			{filled("1-1", maxKeys-1), 0},
			{filled("1-1", maxKeys), api.ErrFull},
			{store.New(), api.ErrGone},
			{nil, api.ErrGone},
		} {
			if is {
				c.code = api.ErrArg
			}
			wantFits(t, c.s, "1-1", k, c.code)
		}
	}
}

// That a key is there already says nothing, if it is too long.
func TestFitsOfALongKeyThatShows(t *testing.T) {
	for _, n := range []int{0, maxKeys - 1, maxKeys, maxKeys + 1} {
		s := filled("1-1", n)
		long, edge := strings.Repeat("k", maxKey+1), strings.Repeat("k", maxKey)
		s.Apply(put(2, "1-1", long, "v"))
		s.Apply(put(2, "1-1", edge, "v"))
		wantFits(t, s, "1-1", long, api.ErrArg)
		wantFits(t, s, "1-1", edge, 0)
		wantFits(t, s, "1-1", "", api.ErrArg)
	}
}

func TestFitsAtItsEdge(t *testing.T) {
	for n := range 2 * maxKeys {
		s := filled("1-1", n)
		code := api.Code(0)
		if n >= maxKeys {
			code = api.ErrFull
		}
		for _, k := range []string{"new", "k", "K0", key(n), key(100), "\x00", "\xff"} {
			wantFits(t, s, "1-1", k, code)
		}
		for i := range n {
			wantFits(t, s, "1-1", key(i), 0)
		}
		wantFits(t, s, "1-2", "new", api.ErrGone)
	}
}

// Neither what is gone counts, nor what other sessions have, nor the head.
func TestFitsCountsWhatShows(t *testing.T) {
	s := filled("1-1", maxKeys)
	for i := range 3 * maxKeys {
		s.Apply(gone(2, "1-1", "gone"+strconv.Itoa(i)))
		s.Apply(put(0, "1-1", "never"+strconv.Itoa(i), "v"))
		s.Apply(put(2, "1-2", key(i), "v"))
		s.Apply(put(2, "1-10", key(i), "v"))
	}
	wantFits(t, s, "1-1", "new", api.ErrFull)
	wantFits(t, s, "1-1", "gone0", api.ErrFull)
	wantFits(t, s, "1-1", "never0", api.ErrFull)
	wantFits(t, s, "1-1", key(maxKeys), api.ErrFull)
	s.Apply(gone(3, "1-1", key(4)))
	for _, k := range []string{"new", "gone0", "never0", key(4), key(5), key(maxKeys)} {
		wantFits(t, s, "1-1", k, 0)
	}
	s.Apply(put(3, "1-1", "gone0", "v"))
	wantFits(t, s, "1-1", "gone0", 0)
	wantFits(t, s, "1-1", "gone1", api.ErrFull)
	wantFits(t, s, "1-1", key(4), api.ErrFull)
	s.Apply(gone(9, "1-1", ""))
	for _, k := range []string{"new", "gone0", key(5)} {
		wantFits(t, s, "1-1", k, api.ErrGone)
	}
}

// P17.1: a nil *Store, and one that New didn't make, have nothing.

func TestNoStore(t *testing.T) {
	for _, s := range []*store.Store{nil, {}, store.New()} {
		for region := -1; region <= maxRegions+1; region++ {
			wantOpens(t, s, region, 0)
		}
		wantFits(t, s, "1-1", "a", api.ErrGone)
		wantFits(t, s, "", "a", api.ErrGone)
		wantFits(t, s, "1-1", "", api.ErrArg)
		wantFits(t, s, "1-1", strings.Repeat("k", maxKey+1), api.ErrArg)
	}
}

// P17.1: all of it, over stores of any kind.

// sessions are some that regions made, and some that nobody did.
func sessions() []string {
	return []string{"", "1-1", "1-2", "1-10", "11-1", "01-1", "1-01", "2-1", "16-1099511627776", "17-1", "16-1099511627777", "0-1", "x"}
}

// some is a write of few choices, so that sessions come to many keys.
func some(throw func(int) int) api.Write {
	w := api.Write{Session: sessions()[throw(len(sessions()))], Stamp: api.Stamp{Time: throw(20), Region: 1 + throw(3)}, Gone: throw(5) == 0, Life: throw(2)}
	if throw(8) > 0 {
		w.Key = key(throw(24))
	}
	return w
}

// wantModel tells in the test if anything else is answered than the model does, or a store is another one behind it. It tells which codes there were.
func wantModel(t *testing.T, s *store.Store, codes map[api.Code]int) {
	t.Helper()
	l := s.Rows()
	for region := -1; region <= maxRegions+1; region++ {
		wantOpens(t, s, region, opens(l, region))
	}
	for _, session := range append(sessions(), "1-3") {
		for _, k := range []string{"", key(0), key(5), key(23), key(24), strings.Repeat("k", maxKey), strings.Repeat("k", maxKey+1)} {
			code := fits(l, session, k)
			codes[code]++
			wantFits(t, s, session, k, code)
		}
	}
	if !slices.Equal(s.Rows(), l) {
		t.Fatal("asking has changed the store")
	}
}

func TestAgainstTheModel(t *testing.T) {
	throw, codes := dice(5), map[api.Code]int{}
	for range 40 {
		s := store.New()
		for range 10 {
			for range 80 {
				s.Apply(some(throw))
			}
			if throw(4) == 0 {
				s.Sweep(throw(20))
			}
			wantModel(t, s, codes)
		}
	}
	for _, code := range []api.Code{0, api.ErrArg, api.ErrGone, api.ErrFull} {
		if codes[code] < 500 {
			t.Errorf("the test is too weak: %v: %d", code, codes[code])
		}
	}
}

// P17.2: a session in which only what fits is put.

func TestOnlyWhatFitsIsPut(t *testing.T) {
	throw, full, refused, again := dice(9), 0, 0, 0
	for range 50 {
		s := opened("1-1")
		for i := range 200 {
			time, k := 2+i, key(throw(40))
			shown := s.Keys("1-1")
			switch {
			case throw(4) == 0:
				s.Apply(gone(time, "1-1", k))
			case throw(60) == 0:
				s.Apply(gone(time, "1-1", ""))
			case throw(2) == 0:
				s.Apply(put(time, "1-1", "", "ann"))
			case quota.Fits(s, "1-1", k) == nil:
				if slices.Contains(shown, k) {
					again++
				}
				s.Apply(put(time, "1-1", k, strconv.Itoa(i)))
			default:
				refused++
			}
			shown = s.Keys("1-1")
			if len(shown) > maxKeys {
				t.Fatalf("the session shows %d keys", len(shown))
			}
			if len(shown) == maxKeys {
				full++
			}
			if len(s.Lives()) == 0 {
				continue
			}
			for _, k := range shown {
				wantFits(t, s, "1-1", k, 0)
			}
		}
	}
	if full < 500 || refused < 500 || again < 500 {
		t.Errorf("the test is too weak: %d, %d, %d", full, refused, again)
	}
}

// A session takes MaxKeys keys one by one, and not one more, however often what shows is put anew.
func TestASessionIsFilled(t *testing.T) {
	s := opened("1-1")
	for i := range maxKeys {
		for k := range i {
			wantFits(t, s, "1-1", key(k), 0)
			s.Apply(put(2+i, "1-1", key(k), strconv.Itoa(i)))
		}
		wantFits(t, s, "1-1", key(i), 0)
		s.Apply(put(2+i, "1-1", key(i), "v"))
		if got := len(s.Keys("1-1")); got != i+1 {
			t.Fatalf("the session shows %d keys, not %d", got, i+1)
		}
	}
	wantFits(t, s, "1-1", key(maxKeys), api.ErrFull)
}
