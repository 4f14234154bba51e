package bloom_test

import (
	"hash/fnv"
	"slices"
	"testing"

	"convoy/bloom"
)

// mixer yields a fixed series of numbers (xorshift), so that every run of the tests is the same.
type mixer uint64

func (m *mixer) next() uint64 {
	*m ^= *m << 13
	*m ^= *m >> 7
	*m ^= *m << 17
	return uint64(*m)
}

// bytes: fewer than n of any values.
func (m *mixer) bytes(n int) []byte {
	out := make([]byte, m.next()%uint64(n))
	for i := range out {
		out[i] = byte(m.next() >> 24)
	}
	return out
}

// modelHash: the chapter's hash is the one that the library calls FNV-1a.
func modelHash(key string) uint32 {
	h := fnv.New32a()
	h.Write([]byte(key))
	return h.Sum32()
}

// modelPlaces: each place worked out by itself, in numbers that don't wrap.
func modelPlaces(key string, k, n int) []int {
	hash := uint64(modelHash(key))
	turn := hash>>17 + hash<<15%(1<<32)
	out := make([]int, k)
	for i := range out {
		out[i] = int((hash + uint64(i)*turn) % (1 << 32) % uint64(n))
	}
	return out
}

// modelFilter: the filter as a set of places, and k; the bytes are told by it bit by bit.
func modelFilter(keys []string, per int) []byte {
	if len(keys) > 65536 {
		keys = keys[:65536]
	}
	if per < 1 {
		per = 1
	}
	if per > 24 {
		per = 24
	}
	n, k := len(keys)*per, per*69/100
	if n < 64 {
		n = 64
	}
	for n%8 != 0 {
		n++
	}
	if k == 0 {
		k = 1
	}
	set := make(map[int]bool)
	for _, key := range keys {
		for _, p := range modelPlaces(key, k, n) {
			set[p] = true
		}
	}
	var out []byte
	for p := 0; p < n; p += 8 {
		sum := 0
		for i, value := range []int{1, 2, 4, 8, 16, 32, 64, 128} {
			if set[p+i] {
				sum += value
			}
		}
		out = append(out, byte(sum))
	}
	return append(out, byte(k))
}

func modelMay(filter []byte, key string) bool {
	if len(filter) < 2 || len(filter) > 1048576 {
		return true
	}
	last := len(filter) - 1
	k := int(filter[last])
	if k == 0 || k > 16 {
		return true
	}
	return !slices.ContainsFunc(modelPlaces(key, k, 8*last), func(p int) bool {
		return filter[p/8]>>(p%8)%2 == 0
	})
}

func TestBuildIsThatOfTheModel(t *testing.T) {
	m := mixer(5)
	for i := range 1500 {
		keys := make([]string, m.next()%uint64(2+i/10))
		for j := range keys {
			keys[j] = string(m.bytes(30))
		}
		per := int(m.next()%30) - 2
		got, want := bloom.Build(keys, per), modelFilter(keys, per)
		if !slices.Equal(got, want) {
			t.Fatalf("P5.1: Build(%.300q, %d): %v, want %v", keys, per, got, want)
		}
		wantAll(t, "any keys", got, keys)
		for range 20 {
			key := string(m.bytes(30))
			wantMay(t, "P5.1", got, key, modelMay(want, key))
		}
	}
}

func TestBuildOfManyKeysIsThatOfTheModel(t *testing.T) {
	keys := numbered("a long name of a key, ", 65536+100)
	for _, n := range []int{4096, 65535, 65536, 65537, len(keys)} {
		if !slices.Equal(bloom.Build(keys[:n], 24), modelFilter(keys[:n], 24)) {
			t.Errorf("P5.1: Build of %d keys, 24, is not that of the model", n)
		}
	}
}

// TestMayIsThatOfTheModel: any bytes, those of no filter among them; many bits are 1, so that both answers come up.
func TestMayIsThatOfTheModel(t *testing.T) {
	m := mixer(9)
	counts := make(map[bool]int)
	for range 20000 {
		filter := m.bytes(40)
		for i := range filter {
			filter[i] |= byte(m.next()>>24) | byte(m.next()>>32)
		}
		if len(filter) > 0 {
			filter[len(filter)-1] = byte(m.next() % 20)
		}
		key := string(m.bytes(12))
		want := modelMay(filter, key)
		counts[want]++
		if got := bloom.May(filter, key); got != want {
			t.Fatalf("P5.1: May(%v, %q): %t, want %t", filter, key, got, want)
		}
	}
	if counts[true] < 2000 || counts[false] < 2000 {
		t.Errorf("the filters are too much alike: %v", counts)
	}
}
