package mac_test

import (
	"crypto/hmac"
	"crypto/sha256"
	"encoding/binary"
	"encoding/hex"
	"math"
	"strings"
	"testing"

	"sojourn/mac"
)

// some makes n bytes that look like any others, by a rule.
func some(n int, seed uint32) string {
	b := make([]byte, n)
	for i := range b {
		seed = seed*1664525 + 1013904223
		b[i] = byte(seed >> 24)
	}
	return string(b)
}

// texts are texts of all lengths about which the blocks end, of many kinds.
func texts() []string {
	l := []string{"", "abc", "é", "\xff\xfe", "key", some(1000, 1), some(1<<16, 2), some(1<<20+17, 3)}
	for n := range 260 {
		l = append(l, some(n, uint32(n)), strings.Repeat("\x00", n), strings.Repeat("\xff", n))
	}
	for i := range 256 {
		l = append(l, string([]byte{byte(i)}))
	}
	return l
}

// keys are keys shorter and longer than a block, and as long.
func keys() []string {
	l := []string{"", "Jefe", strings.Repeat("\x00", 64), strings.Repeat("\x00", 65), strings.Repeat("\xff", 64), some(1000, 8), some(1<<16, 9)}
	for n := range 140 {
		l = append(l, some(n, uint32(n)+5))
	}
	return l
}

// numbers are numbers for which keys are derived.
func numbers() []int {
	l := []int{0, 1, 2, -1, -2, 255, 256, math.MaxInt, math.MinInt, math.MaxInt - 1, math.MinInt + 1, 0x0102030405060708}
	for i := range 64 {
		l = append(l, 1<<i, -1<<i, 1<<i-1)
	}
	return l
}

// digest is the digest of s by the library.
func digest(s string) string {
	d := sha256.Sum256([]byte(s))
	return string(d[:])
}

// tag is the tag of s in the chapter's own words, by the library's digest.
func tag(key, s string) string {
	if len(key) > 64 {
		key = digest(key)
	}
	key += strings.Repeat("\x00", 64-len(key))
	turned := func(c byte) string {
		b := []byte(key)
		for i := range b {
			b[i] ^= c
		}
		return string(b)
	}
	return digest(turned(0x5c) + digest(turned(0x36)+s))
}

// P3.1: Digest.

func TestDigestOfExamples(t *testing.T) {
	if d := mac.Digest("abc"); !strings.HasPrefix(d, "\xba\x78\x16\xbf") {
		t.Errorf("the digest of abc is %x", d)
	}
	for _, c := range []struct{ text, want string }{
		{"", "e3b0c44298fc1c149afbf4c8996fb92427ae41e4649b934ca495991b7852b855"},
		{"abc", "ba7816bf8f01cfea414140de5dae2223b00361a396177a9cb410ff61f20015ad"},
		{"abcdbcdecdefdefgefghfghighijhijkijkljklmklmnlmnomnopnopq", "248d6a61d20638b8e5c026930c3e6039a33ce45964ff2167f6ecedd419db06c1"},
		{"abcdefghbcdefghicdefghijdefghijkefghijklfghijklmghijklmnhijklmnoijklmnopjklmnopqklmnopqrlmnopqrsmnopqrstnopqrstu", "cf5b16a778af8380036ce59e7b0492370b249b11e8f07a51afac45037afee9d1"},
		{strings.Repeat("a", 1000000), "cdc76e5c9914fb9281a1c7e284d73e67f1809a48a497200e046d39ccc7112cd0"},
	} {
		if d := hex.EncodeToString([]byte(mac.Digest(c.text))); d != c.want {
			t.Errorf("the digest of %.60q is %s, not %s", c.text, d, c.want)
		}
	}
}

func TestDigestOfAllTexts(t *testing.T) {
	for _, s := range texts() {
		if d, want := mac.Digest(s), digest(s); d != want {
			t.Fatalf("the digest of %d bytes is %x, not %x: %.40x", len(s), d, want, s)
		}
	}
}

// A text of 2^32 bits and more has a length that 32 bits don't hold.
func TestDigestOfALongText(t *testing.T) {
	if testing.Short() {
		t.Skip("half a gigabyte")
	}
	s := strings.Repeat("sojourn.", 1<<26) + "!"
	h := sha256.New()
	for range 1 << 10 {
		h.Write([]byte(s[:1<<19]))
	}
	h.Write([]byte("!"))
	if d, want := mac.Digest(s), string(h.Sum(nil)); d != want {
		t.Errorf("the digest of %d bytes is %x, not %x", len(s), d, want)
	}
}

func TestDigestIsOfTheBytesAlone(t *testing.T) {
	s := some(300, 4)
	for i := range 10 {
		for n := range 140 {
			if d, want := mac.Digest(s[i:i+n]), digest(s[i:i+n]); d != want {
				t.Fatalf("the digest of %d bytes at %d is %x, not %x", n, i, d, want)
			}
		}
	}
	first := mac.Digest("abc")
	mac.Digest(s)
	mac.Tag("key", s)
	if d := mac.Digest("abc"); d != first || d != digest("abc") {
		t.Errorf("the digest of abc is once %x, once %x", first, d)
	}
}

func TestDigestShowsEachByte(t *testing.T) {
	b := []byte(some(130, 6))
	first := mac.Digest(string(b))
	for i := range b {
		b[i] ^= 1
		if mac.Digest(string(b)) == first {
			t.Errorf("the byte at %d isn't in the digest", i)
		}
		b[i] ^= 1
	}
}

// P3.1: Tag.

func TestTagOfExamples(t *testing.T) {
	if d := mac.Tag("Jefe", "what do ya want for nothing?"); !strings.HasPrefix(d, "\x5b\xdc\xc1\x46") {
		t.Errorf("the tag is %x", d)
	}
	count := make([]byte, 25)
	for i := range count {
		count[i] = byte(i + 1)
	}
	long := strings.Repeat("\xaa", 131)
	for _, c := range []struct{ key, text, want string }{
		{"", "", "b613679a0814d9ec772f95d778c35fc5ff1697c493715653c6c712144292c5ad"},
		{strings.Repeat("\x0b", 20), "Hi There", "b0344c61d8db38535ca8afceaf0bf12b881dc200c9833da726e9376c2e32cff7"},
		{"Jefe", "what do ya want for nothing?", "5bdcc146bf60754e6a042426089575c75a003f089d2739839dec58b964ec3843"},
		{strings.Repeat("\xaa", 20), strings.Repeat("\xdd", 50), "773ea91e36800e46854db8ebd09181a72959098b3ef8c122d9635514ced565fe"},
		{string(count), strings.Repeat("\xcd", 50), "82558a389a443c0ea4cc819899f2083a85f0faa3e578f8077a2e3ff46729665b"},
		{long, "Test Using Larger Than Block-Size Key - Hash Key First", "60e431591ee0b67f0d8a26aacbf5b77f8e0bc6213728c5140546040f0ee37f54"},
		{long, "This is a test using a larger than block-size key and a larger than block-size data. The key needs to be hashed before being used by the HMAC algorithm.", "9b09ffa71b942fcb27635fbcd5b0e944bfdc63644f0713938a7f51535c3a35e2"},
	} {
		if d := hex.EncodeToString([]byte(mac.Tag(c.key, c.text))); d != c.want {
			t.Errorf("the tag of %.60q under %.40q is %s, not %s", c.text, c.key, d, c.want)
		}
	}
}

func TestTagOfAllTexts(t *testing.T) {
	for _, key := range []string{"", "k", some(63, 1), some(64, 2), some(65, 3), some(200, 4)} {
		for _, s := range texts() {
			if d, want := mac.Tag(key, s), tag(key, s); d != want {
				t.Fatalf("the tag of %d bytes under %d bytes is %x, not %x", len(s), len(key), d, want)
			}
		}
	}
}

func TestTagUnderAllKeys(t *testing.T) {
	for _, key := range keys() {
		for _, s := range []string{"", "a", some(55, 1), some(56, 2), some(64, 3), some(119, 4), some(120, 5), some(500, 6)} {
			h := hmac.New(sha256.New, []byte(key))
			h.Write([]byte(s))
			if d, want := mac.Tag(key, s), string(h.Sum(nil)); d != want || want != tag(key, s) {
				t.Fatalf("the tag of %d bytes under %d bytes is %x, not %x", len(s), len(key), d, want)
			}
		}
	}
}

// A key is filled with noughts, and a long one is its digest: so the words say, and no other key is alike.
func TestTagUnderKeysThatAreFilled(t *testing.T) {
	for n := range 65 {
		key := some(n, 7)
		filled := key + strings.Repeat("\x00", 64-n)
		if mac.Tag(key, "text") != mac.Tag(filled, "text") {
			t.Errorf("a key of %d bytes isn't filled with noughts", n)
		}
		if mac.Tag(key, "text") == mac.Tag(filled+"\x00", "text") {
			t.Errorf("a key of 65 bytes is like one of %d", n)
		}
	}
	for _, n := range []int{65, 66, 128, 1000} {
		key := some(n, 7)
		if mac.Tag(key, "text") != mac.Tag(mac.Digest(key), "text") {
			t.Errorf("a key of %d bytes isn't its digest", n)
		}
	}
	if key := some(64, 7); mac.Tag(key, "text") == mac.Tag(mac.Digest(key), "text") {
		t.Error("a key of 64 bytes is its digest")
	}
}

func TestTagShowsEachByte(t *testing.T) {
	first := mac.Tag(some(80, 1), some(80, 2))
	for i := range 80 {
		key, s := []byte(some(80, 1)), []byte(some(80, 2))
		key[i] ^= 128
		if mac.Tag(string(key), string(s)) == first {
			t.Errorf("the key's byte at %d isn't in the tag", i)
		}
		key[i] ^= 128
		s[i] ^= 128
		if mac.Tag(string(key), string(s)) == first {
			t.Errorf("the text's byte at %d isn't in the tag", i)
		}
	}
	if mac.Tag("ab", "c") == mac.Tag("a", "bc") {
		t.Error("it doesn't matter where the key ends")
	}
}

// P3.1: Derive.

func TestDeriveOfExamples(t *testing.T) {
	for _, c := range []struct {
		n    int
		want string
	}{
		{0, "key\x00\x00\x00\x00\x00\x00\x00\x00"},
		{1, "key\x00\x00\x00\x00\x00\x00\x00\x01"},
		{258, "key\x00\x00\x00\x00\x00\x00\x01\x02"},
		{0x0102030405060708, "key\x01\x02\x03\x04\x05\x06\x07\x08"},
		{math.MaxInt, "key\x7f\xff\xff\xff\xff\xff\xff\xff"},
		{-1, "key\xff\xff\xff\xff\xff\xff\xff\xff"},
		{-2, "key\xff\xff\xff\xff\xff\xff\xff\xfe"},
		{math.MinInt, "key\x80\x00\x00\x00\x00\x00\x00\x00"},
	} {
		if d, want := mac.Derive("master", c.n), tag("master", c.want); d != want {
			t.Errorf("the key of %d is %x, not %x", c.n, d, want)
		}
	}
}

func TestDeriveOfAllNumbers(t *testing.T) {
	seen := map[string]int{}
	for _, master := range []string{"", "m", some(64, 1), some(65, 2), some(300, 3)} {
		for _, n := range numbers() {
			s := binary.BigEndian.AppendUint64([]byte("key"), uint64(n))
			d := mac.Derive(master, n)
			if want := tag(master, string(s)); d != want {
				t.Fatalf("the key of %d under %d bytes is %x, not %x", n, len(master), d, want)
			}
			if m, ok := seen[d]; ok && m != n {
				t.Errorf("%d and %d have one key", m, n)
			}
			seen[d] = n
		}
	}
}

// P3.1: Equal.

func TestEqualOfExamples(t *testing.T) {
	for _, c := range []struct {
		a, b string
		want bool
	}{
		{"", "", true},
		{"a", "a", true},
		{"abc", "abc", true},
		{"\x00", "\x00", true},
		{"", "\x00", false},
		{"", "a", false},
		{"a", "a\x00", false},
		{"\x00\x00", "\x00", false},
		{"abc", "abd", false},
		{"abc", "bbc", false},
		{"ab", "ba", false},
		{"ab\x00", "ab ", false},
		{"A", "a", false},
		{"é", "e\u0301", false},
		{"\xff", "\ufffd", false},
		{"abc", "ab", false},
		{"abc", "bc", false},
	} {
		if got := mac.Equal(c.a, c.b); got != c.want {
			t.Errorf("%q and %q: %v", c.a, c.b, got)
		}
		if got := mac.Equal(c.b, c.a); got != c.want {
			t.Errorf("%q and %q: %v", c.b, c.a, got)
		}
	}
}

func TestEqualOfAllTexts(t *testing.T) {
	l := texts()[:300]
	for _, a := range l {
		for _, b := range l {
			if got := mac.Equal(a, strings.Clone(b)); got != (a == b) {
				t.Fatalf("%x and %x: %v", a, b, got)
			}
		}
	}
}

func TestEqualLooksAtEachByte(t *testing.T) {
	for n := 1; n < 100; n++ {
		a := some(n, uint32(n))
		for i := range n {
			for bit := range 8 {
				b := []byte(a)
				b[i] ^= 1 << bit
				if mac.Equal(a, string(b)) || mac.Equal(string(b), a) {
					t.Fatalf("of %d bytes the one at %d isn't looked at", n, i)
				}
			}
		}
		if mac.Equal(a, a[:n-1]) || mac.Equal(a[:n-1], a) || mac.Equal(a, a+a) || mac.Equal(a, a+strings.Repeat("\x00", 256)) {
			t.Fatalf("%d bytes and more or fewer are alike", n)
		}
	}
	// Two bytes that differ by the same bits don't hide one another.
	if mac.Equal("\x01\x01", "\x02\x02") || mac.Equal("ab", "ba") {
		t.Error("what differs at two places is alike")
	}
}

// A tag is held against another one.
func TestEqualOfTags(t *testing.T) {
	d := mac.Tag("key", "text")
	if !mac.Equal(d, mac.Tag("key", "text")) {
		t.Error("a tag isn't like itself")
	}
	if mac.Equal(d, mac.Tag("key", "texts")) || mac.Equal(d, mac.Tag("kez", "text")) || mac.Equal(d, d[:31]) || mac.Equal(d, "") {
		t.Error("a tag is like another one")
	}
}
