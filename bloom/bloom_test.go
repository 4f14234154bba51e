package bloom_test

import (
	"bytes"
	"math"
	"slices"
	"strconv"
	"strings"
	"testing"

	"convoy/bloom"
)

// numbered: n keys, each another one.
func numbered(name string, n int) []string {
	out := make([]string, n)
	for i := range out {
		out[i] = name + strconv.Itoa(i)
	}
	return out
}

// edgeKeys: no bytes, bytes that are no text, the same letters in other orders, letters of several bytes, long ones.
func edgeKeys() []string {
	return []string{
		"", "\x00", "\x00\x00", "\xff", "\xff\xff", "\x80", "a", "b", "ab", "ba", "a\x00", "\x00a", "ü", "€", "\U0001f600", "\xc3",
		strings.Repeat("k", 64), strings.Repeat("k", 65), strings.Repeat("\xff", 100000),
	}
}

func wantMay(t *testing.T, promise string, filter []byte, key string, want bool) {
	t.Helper()
	if got := bloom.May(filter, key); got != want {
		t.Errorf("%s: May of a filter of %d bytes, %.80q: %t, want %t", promise, len(filter), key, got, want)
	}
}

// wantAll: each of the keys may be there.
func wantAll(t *testing.T, what string, filter []byte, keys []string) {
	t.Helper()
	for _, key := range keys {
		if !bloom.May(filter, key) {
			t.Fatalf("P5.2: %s: May(%.80q): false", what, key)
		}
	}
}

func TestExamples(t *testing.T) {
	if got := bloom.Hash(""); got != 0x811C9DC5 {
		t.Errorf("P5.1: Hash of no bytes: %X", got)
	}
	if got := bloom.Hash("a"); got != 0xE40C292C {
		t.Errorf("P5.1: Hash of a: %X", got)
	}
	if got := bloom.Build(nil, 10); !slices.Equal(got, []byte{0, 0, 0, 0, 0, 0, 0, 0, 6}) {
		t.Errorf("P5.1: Build of no keys: %v", got)
	}
	wantMay(t, "P5.2", bloom.Build([]string{"a"}, 10), "a", true)
	wantMay(t, "P5.1", nil, "a", true)
	wantMay(t, "P5.1", []byte{}, "a", true)
	wantMay(t, "P5.1", []byte{0, 0}, "a", true)
}

func TestHashGoesOverTheBytes(t *testing.T) {
	for _, c := range []struct {
		key  string
		want uint32
	}{
		{"\x00", 0x050c5d1f},
		{"b", 0xe70c2de5},
		{"\xff", 0x7a0b824e},
		{"ab", 0x4d2505ca},
		{"ba", 0x3c2ba6cc},
		{"ü", 0x119dd44a},
		{"foobar", 0xbf9cf968},
		{"chongo was here!\n", 0xd49930d5},
	} {
		if got := bloom.Hash(c.key); got != c.want {
			t.Errorf("P5.1: Hash(%q): %x, want %x", c.key, got, c.want)
		}
	}
	keys := edgeKeys()
	for i := range 256 {
		keys = append(keys, string([]byte{byte(i)}), string([]byte{'a', byte(i), 'z'}))
	}
	for _, key := range keys {
		if got := bloom.Hash(key); got != modelHash(key) {
			t.Errorf("P5.1: Hash(%.80q): %x, want %x", key, got, modelHash(key))
		}
	}
}

// TestPlacesOfAKey: filters that were worked out by hand: the hash of a is E40C292C, its rotation 14967206; the third place on is past 2^32.
func TestPlacesOfAKey(t *testing.T) {
	for _, c := range []struct {
		what string
		keys []string
		per  int
		want []byte
	}{
		{"a place among 64 bits: 44", []string{"a"}, 1, []byte{0, 0, 0, 0, 0, 16, 0, 0, 1}},
		{"two places among 64 bits: 44, 50", []string{"a"}, 3, []byte{0, 0, 0, 0, 0, 16, 4, 0, 2}},
		{"six places among 64 bits: 44, 50, 56, 62, 4, 10", []string{"a"}, 10, []byte{16, 4, 0, 0, 0, 16, 4, 65, 6}},
		{"a place among 65 bits, rounded up to 72: 52", slices.Repeat([]string{"a"}, 65), 1, []byte{0, 0, 0, 0, 0, 0, 16, 0, 0, 1}},
		{"six places among 70 bits, rounded up to 72: 52, 18, 16, 54, 20, 58", slices.Repeat([]string{"a"}, 7), 10, []byte{0, 0, 21, 0, 0, 0, 80, 4, 0, 6}},
	} {
		if got := bloom.Build(c.keys, c.per); !slices.Equal(got, c.want) {
			t.Errorf("P5.1: Build, %s: %v, want %v", c.what, got, c.want)
		}
		wantMay(t, "P5.2", c.want, "a", true)
	}
}

// TestAKeyWhoseHashIs0: its rotation is 0 too, so that all its places are 0.
func TestAKeyWhoseHashIs0(t *testing.T) {
	key := "\xcc\x24\x31\xc4"
	if got := bloom.Hash(key); got != 0 {
		t.Errorf("P5.1: Hash(%q): %x", key, got)
	}
	if got := bloom.Build([]string{key}, 10); !slices.Equal(got, []byte{1, 0, 0, 0, 0, 0, 0, 0, 6}) {
		t.Errorf("P5.1: Build of %q, 10: %v", key, got)
	}
	wantMay(t, "P5.2", []byte{1, 16}, key, true)
	wantMay(t, "P5.1", []byte{254, 1}, key, false)
}

func TestTheNumberOfPlacesHangsOnThePer(t *testing.T) {
	places := []byte{1, 1, 1, 2, 2, 3, 4, 4, 5, 6, 6, 7, 8, 8, 9, 10, 11, 11, 12, 13, 13, 14, 15, 15, 16} // of 0 to 24
	for per, k := range places {
		for _, n := range []int{0, 1, 20} {
			filter := bloom.Build(numbered("key", n), per)
			if got := filter[len(filter)-1]; got != k {
				t.Errorf("P5.1: Build of %d keys, %d: k is %d, want %d", n, per, got, k)
			}
		}
	}
}

func TestPerIsFrom1To24(t *testing.T) {
	for _, c := range []struct{ per, counts int }{
		{math.MinInt, 1}, {math.MinInt32, 1}, {-1, 1}, {0, 1}, {25, 24}, {26, 24}, {100, 24}, {256, 24}, {1 << 32, 24}, {math.MaxInt, 24},
	} {
		for _, n := range []int{0, 1, 3, 100} {
			keys := numbered("key", n)
			if got, want := bloom.Build(keys, c.per), bloom.Build(keys, c.counts); !slices.Equal(got, want) {
				t.Errorf("P5.1: Build of %d keys, %d: %v, want %v", n, c.per, got, want)
			}
		}
	}
}

func TestAFilterHasAsManyBitsAsTheKeysTake(t *testing.T) {
	for _, c := range []struct{ keys, per, bytes int }{
		{0, 1, 8}, {0, 24, 8}, {1, 24, 8}, {2, 24, 8}, {3, 21, 8}, {6, 10, 8}, {8, 8, 8}, {63, 1, 8}, {64, 1, 8},
		{65, 1, 9}, {13, 5, 9}, {7, 10, 9}, {3, 24, 9}, {72, 1, 9}, {73, 1, 10}, {100, 10, 125}, {101, 7, 89}, {1000, 24, 3000}, {1001, 3, 376},
	} {
		if got := len(bloom.Build(numbered("key", c.keys), c.per)); got != c.bytes+1 {
			t.Errorf("P5.1: Build of %d keys, %d: %d bytes, want %d and the byte k", c.keys, c.per, got, c.bytes)
		}
		if got := len(bloom.Build(make([]string, c.keys), c.per)); got != c.bytes+1 {
			t.Errorf("P5.1: Build of %d times one key, %d: %d bytes, want %d and the byte k", c.keys, c.per, got, c.bytes)
		}
	}
}

func TestKeysThatItWasBuiltWithMayBeThere(t *testing.T) {
	for per := -1; per <= 26; per++ {
		wantAll(t, "edges", bloom.Build(edgeKeys(), per), edgeKeys())
		for _, n := range []int{1, 2, 3, 10, 64, 65, 500} {
			keys := numbered("key", n)
			wantAll(t, "ordinary keys", bloom.Build(keys, per), keys)
		}
	}
	for _, key := range edgeKeys() {
		wantAll(t, "one key", bloom.Build([]string{key}, 10), []string{key})
	}
}

func TestOtherKeysAreMostlyNotThere(t *testing.T) {
	keys, others := numbered("key", 1000), numbered("other", 1000)
	for _, c := range []struct{ per, most int }{{4, 250}, {10, 40}, {24, 5}} {
		filter := bloom.Build(keys, c.per)
		wrong := 0
		for _, key := range others {
			if bloom.May(filter, key) {
				wrong++
			}
		}
		if wrong > c.most {
			t.Errorf("P5.1: with %d bits a key, %d of 1000 other keys may be there", c.per, wrong)
		}
	}
}

func TestOnlyTheFirstKeysCount(t *testing.T) {
	const most = 1 << 16
	keys := numbered("key", most+3000)
	for _, c := range []struct{ per, bytes int }{{1, 8192}, {10, 81920}, {24, 196608}} {
		whole := bloom.Build(keys[:most], c.per)
		if len(whole) != c.bytes+1 {
			t.Errorf("P5.1: Build of 2^16 keys, %d: %d bytes, want %d and the byte k", c.per, len(whole), c.bytes)
		}
		wantAll(t, "2^16 keys", whole, keys[:most])
		for _, n := range []int{most + 1, most + 8, len(keys)} {
			if !slices.Equal(bloom.Build(keys[:n], c.per), whole) {
				t.Errorf("P5.1: Build of %d keys, %d, is not that of the first 2^16", n, c.per)
			}
		}
	}
	filter := bloom.Build(keys, 24)
	if !slices.ContainsFunc(keys[most:], func(key string) bool { return !bloom.May(filter, key) }) {
		t.Error("P5.1: further keys than 2^16 are added")
	}
}

// withK: bytes of bits, all of the one value, and a byte k.
func withK(size int, value, k byte) []byte {
	return append(bytes.Repeat([]byte{value}, size), k)
}

func TestMayRejectsOnlyByAValidFilter(t *testing.T) {
	for _, c := range []struct {
		what   string
		filter []byte
		want   bool
	}{
		{"no byte of bits, k 0", []byte{0}, true},
		{"no byte of bits, k 1", []byte{1}, true},
		{"no byte of bits, k 16", []byte{16}, true},
		{"one byte of bits 0, k 1", []byte{0, 1}, false},
		{"one byte of bits 0, k 16", []byte{0, 16}, false},
		{"one byte of bits 1, k 1", []byte{255, 1}, true},
		{"one byte of bits 1, k 16", []byte{255, 16}, true},
		{"k 0", withK(8, 0, 0), true},
		{"k 1", withK(8, 0, 1), false},
		{"k 6", withK(8, 0, 6), false},
		{"k 16", withK(8, 0, 16), false},
		{"k 17", withK(8, 0, 17), true},
		{"k 128", withK(8, 0, 128), true},
		{"k 255", withK(8, 0, 255), true},
		{"bits 1, k 17", withK(8, 255, 17), true},
		{"three bytes of bits", withK(3, 0, 1), false},
		{"a byte fewer than 2^20", withK(1<<20-2, 0, 1), false},
		{"2^20 bytes", withK(1<<20-1, 0, 1), false},
		{"2^20 bytes, k 16", withK(1<<20-1, 0, 16), false},
		{"2^20 bytes, bits 1", withK(1<<20-1, 255, 16), true},
		{"2^20 bytes, k 0", withK(1<<20-1, 0, 0), true},
		{"2^20 bytes, k 17", withK(1<<20-1, 0, 17), true},
		{"a byte more than 2^20", withK(1<<20, 0, 1), true},
		{"a byte more than 2^20, k 16", withK(1<<20, 0, 16), true},
		{"2^22 bytes", withK(1<<22-1, 0, 1), true},
	} {
		for _, key := range edgeKeys() {
			if got := bloom.May(c.filter, key); got != c.want {
				t.Errorf("P5.1: May, %s, %.80q: %t, want %t", c.what, key, got, c.want)
			}
		}
	}
}

// TestMayAsksForEachPlace: all bits are 1 but one: the key may be there if that one is not among its places, wherever among them it would be.
func TestMayAsksForEachPlace(t *testing.T) {
	for _, key := range []string{"", "a", "key7", "\xff\xff"} {
		for _, size := range []int{1, 3, 8, 9, 31} {
			for k := byte(1); k <= 16; k++ {
				for p := range 8 * size {
					filter := withK(size, 255, k)
					filter[p/8] -= 1 << (p % 8)
					among := slices.Contains(modelPlaces(key, int(k), 8*size), p)
					wantMay(t, "P5.1", filter, key, !among)
				}
			}
		}
	}
}

// TestMayAsksForNoOtherPlace: the bits of a key's own places are enough.
func TestMayAsksForNoOtherPlace(t *testing.T) {
	for _, key := range edgeKeys() {
		for _, size := range []int{1, 3, 8, 9, 31, 4096} {
			filter := withK(size, 0, 16)
			for _, p := range modelPlaces(key, 16, 8*size) {
				filter[p/8] |= 1 << (p % 8)
			}
			wantMay(t, "P5.1", filter, key, true)
		}
	}
}

func TestBuildLeavesTheKeys(t *testing.T) {
	room := numbered("key", 100)
	before := slices.Clone(room)
	filter := bloom.Build(room[:60], 10)
	want := slices.Clone(filter)
	if !slices.Equal(room, before) {
		t.Error("P5.3: Build changed the keys, or what lies behind them")
	}
	clear(room)
	if !slices.Equal(filter, want) {
		t.Error("P5.3: the filter hangs on the keys")
	}
	wantAll(t, "keys that were cleared", filter, before[:60])
}

func TestTheFilterIsNewMemory(t *testing.T) {
	for _, keys := range [][]string{nil, {}, {"a"}, numbered("key", 100)} {
		one, other := bloom.Build(keys, 10), bloom.Build(keys, 10)
		want := slices.Clone(other)
		spare := one[:cap(one)]
		for i := range spare {
			spare[i] ^= 0xff
		}
		if !slices.Equal(other, want) || !slices.Equal(bloom.Build(keys, 10), want) {
			t.Errorf("P5.3: two filters of %d keys share memory", len(keys))
		}
	}
}

func TestMayLeavesTheFilter(t *testing.T) {
	room := append(bloom.Build(numbered("key", 50), 10), bytes.Repeat([]byte{0xa5}, 20)...)
	before := slices.Clone(room)
	size := len(room) - 20
	for range 3 {
		for _, key := range append(numbered("key", 100), edgeKeys()...) {
			bloom.May(room[:size], key)
		}
	}
	if !slices.Equal(room, before) {
		t.Error("P5.3: May changed the filter, or what lies behind it")
	}
	wantMay(t, "P5.1", room[:size], "key7", true)
	clear(room[:size-1])
	wantMay(t, "P5.1", room[:size], "key7", false)
}
