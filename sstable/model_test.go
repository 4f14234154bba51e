package sstable_test

import (
	"bytes"
	"cmp"
	"encoding/binary"
	"fmt"
	"hash/crc32"
	"slices"
	"strings"
	"testing"

	"convoy/api"
	"convoy/bloom"
	"convoy/sstable"
)

// draft: a table in its parts, as the chapter tells them, written once more in the plainest form; a test may forge any of them.
type draft struct {
	blocks   [][]byte // the payloads
	filter   []byte
	count    uint64 // of blocks, in the index
	rows     []row
	filterAt int
	indexAt  int
	end      string
}

// row: of the index.
type row struct {
	first, last  string
	offset, size int
}

func modelText(s string) []byte {
	return append(binary.AppendUvarint(nil, uint64(len(s))), s...)
}

func modelFrame(payload []byte) []byte {
	out := binary.AppendUvarint(nil, uint64(len(payload)))
	out = binary.LittleEndian.AppendUint32(out, crc32.ChecksumIEEE(payload))
	return append(out, payload...)
}

func modelEntry(e api.Entry) []byte {
	del := byte(0)
	if e.Del {
		del = 1
	}
	return slices.Concat(modelText(e.Key), binary.AppendUvarint(nil, uint64(e.Seq)), []byte{del}, modelText(e.Value))
}

func modelBlock(entries ...api.Entry) []byte {
	var out []byte
	for _, e := range entries {
		out = append(out, modelEntry(e)...)
	}
	return out
}

// modelKeys: each once, in increasing order.
func modelKeys(entries []api.Entry) []string {
	var keys []string
	for _, e := range entries {
		if !slices.Contains(keys, e.Key) {
			keys = append(keys, e.Key)
		}
	}
	slices.Sort(keys)
	return keys
}

// chunked: three in each block.
func chunked(entries []api.Entry) [][]api.Entry {
	var blocks [][]api.Entry
	for ; len(entries) > 3; entries = entries[3:] {
		blocks = append(blocks, entries[:3])
	}
	return append(blocks, entries)
}

// drafted: the parts of a table with these blocks, all of which fit each other.
func drafted(blocks [][]api.Entry) *draft {
	d := &draft{filter: bloom.Build(modelKeys(slices.Concat(blocks...)), 10), count: uint64(len(blocks)), end: "cvt1"}
	for _, block := range blocks {
		d.blocks = append(d.blocks, modelBlock(block...))
		r := row{offset: d.filterAt, size: len(modelFrame(modelBlock(block...)))}
		if len(block) > 0 {
			r.first, r.last = block[0].Key, block[len(block)-1].Key
		}
		d.rows = append(d.rows, r)
		d.filterAt += r.size
	}
	d.indexAt = d.filterAt + len(modelFrame(d.filter))
	return d
}

func (d *draft) index() []byte {
	out := binary.AppendUvarint(nil, d.count)
	for _, r := range d.rows {
		out = append(out, modelText(r.first)...)
		out = append(out, modelText(r.last)...)
		out = binary.AppendUvarint(out, uint64(r.offset))
		out = binary.AppendUvarint(out, uint64(r.size))
	}
	return out
}

func (d *draft) footer() []byte {
	out := binary.LittleEndian.AppendUint32(nil, uint32(d.filterAt))
	out = binary.LittleEndian.AppendUint32(out, uint32(d.indexAt))
	return append(out, d.end...)
}

func (d *draft) bytes() []byte {
	var out []byte
	for _, block := range d.blocks {
		out = append(out, modelFrame(block)...)
	}
	return slices.Concat(out, modelFrame(d.filter), modelFrame(d.index()), d.footer())
}

// mixer yields a fixed series of numbers (xorshift), so that every run of the tests is the same.
type mixer uint64

func (m *mixer) below(n int) int {
	*m ^= *m << 13
	*m ^= *m >> 7
	*m ^= *m << 17
	return int(uint64(*m) >> 11 % uint64(n))
}

// text: of few letters, so that many are prefixes of others, and many come up again.
func (m *mixer) text(n int) string {
	b := make([]byte, m.below(n+1))
	for i := range b {
		b[i] = "\x00abc\x80\xff"[m.below(6)]
	}
	return string(b)
}

// entries: of a table, with keys of at most so many letters: the shorter they may be, the more entries a key has.
func (m *mixer) entries(letters int) []api.Entry {
	var out []api.Entry
	for range 1 + m.below(84) {
		e := put(m.text(letters), 1+m.below(40), m.text(5))
		if m.below(9) == 0 {
			e.Key, e.Value = strings.Repeat("b", 60+m.below(5)), strings.Repeat("v", 1000+m.below(25))
		}
		if m.below(9) == 0 {
			e.Seq = 1<<62 - m.below(3)
		}
		if m.below(4) == 0 {
			e.Del, e.Value = true, ""
		}
		out = append(out, e)
	}
	order := func(a, b api.Entry) int { return cmp.Or(strings.Compare(a.Key, b.Key), cmp.Compare(b.Seq, a.Seq)) }
	slices.SortFunc(out, order)
	return slices.CompactFunc(out, func(a, b api.Entry) bool { return order(a, b) == 0 })
}

func modelGet(entries []api.Entry, key string, seq int) (api.Entry, bool) {
	var newest api.Entry
	for _, e := range entries {
		if e.Key == key && e.Seq <= seq && e.Seq > newest.Seq {
			newest = e
		}
	}
	return newest, newest.Seq > 0
}

func modelFrom(entries []api.Entry, key string) []api.Entry {
	var out []api.Entry
	for _, e := range entries {
		if e.Key >= key {
			out = append(out, e)
		}
	}
	return out
}

// mayExamine: the fewest and the most blocks that a Get may examine: none of which the filter or the index tells that the key is not in it, but one at least if there is such a block.
func mayExamine(entries []api.Entry, filter []byte, key string) (int, int) {
	most := 0
	for _, block := range chunked(entries) {
		if block[0].Key <= key && key <= block[len(block)-1].Key {
			most++
		}
	}
	if !bloom.May(filter, key) {
		most = 0
	}
	return min(most, 1), most
}

// wantReader: all that the reader tells is what these entries ask for.
func wantReader(t *testing.T, r *sstable.Reader, entries []api.Entry, keys []string) {
	t.Helper()
	wantEntries(t, "P6.2: All", r.All(), entries)
	if r.Len() != len(entries) || r.First() != entries[0].Key || r.Last() != entries[len(entries)-1].Key {
		t.Errorf("P6.1: Len %d, First %q, Last %q of %s", r.Len(), r.First(), r.Last(), shown(entries))
	}
	filter := bloom.Build(modelKeys(entries), 10)
	for _, key := range keys {
		wantEntries(t, fmt.Sprintf("P6.1: From(%q)", key), slices.Collect(r.From(key)), modelFrom(entries, key))
		least, most := mayExamine(entries, filter, key)
		for _, seq := range []int{0, 1, 7, 20, 40, 1<<62 - 1, 1 << 62, 1<<63 - 1} {
			before := r.Blocks()
			want, ok := modelGet(entries, key, seq)
			wantGet(t, r, key, seq, want, ok)
			if n := r.Blocks() - before; n < least || n > most {
				t.Errorf("P6.3: Get(%q, %d) examines %d blocks of %s, want from %d to %d", key, seq, n, shown(entries), least, most)
			}
		}
	}
}

func TestAnyTableIsThatOfTheModel(t *testing.T) {
	m := mixer(6)
	for i := range 600 {
		entries := m.entries(1 + i%6)
		b := built(t, entries)
		if want := drafted(chunked(entries)).bytes(); !bytes.Equal(b, want) {
			t.Fatalf("P6.1: Build(%s): %.300x, want %.300x", shown(entries), b, want)
		}
		keys := modelKeys(entries)
		for range 40 {
			keys = append(keys, m.text(5))
		}
		wantReader(t, parsed(t, b), entries, keys)
	}
}

// TestKeysThatTheFilterLetsPass: keys between the others, which are in no block; the filter lets some of them pass.
func TestKeysThatTheFilterLetsPass(t *testing.T) {
	entries := numbered(84)
	filter := bloom.Build(modelKeys(entries), 10)
	r := readerOf(t, entries)
	passed, stopped := 0, 0
	for i := range 20000 {
		key := fmt.Sprintf("key%03d%d", i%168, i)
		least, most := mayExamine(entries, filter, key)
		before := r.Blocks()
		wantGet(t, r, key, 9, api.Entry{}, false)
		if n := r.Blocks() - before; n < least || n > most {
			t.Errorf("P6.3: Get(%q) examines %d blocks, want from %d to %d", key, n, least, most)
		}
		passed += most
		if !bloom.May(filter, key) {
			stopped++
		}
	}
	if passed < 20 || stopped < 15000 {
		t.Errorf("the keys are too much alike: the filter lets %d pass, and stops %d", passed, stopped)
	}
}
