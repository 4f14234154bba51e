package sstable_test

import (
	"bytes"
	"encoding/hex"
	"fmt"
	"math"
	"slices"
	"strings"
	"testing"

	"convoy/api"
	"convoy/sstable"
)

func put(key string, seq int, value string) api.Entry {
	return api.Entry{Key: key, Seq: seq, Value: value}
}

func gone(key string, seq int) api.Entry {
	return api.Entry{Key: key, Seq: seq, Del: true}
}

// numbered: n entries with keys of their own, of which each is greater than the one before.
func numbered(n int) []api.Entry {
	out := make([]api.Entry, n)
	for i := range out {
		out[i] = put(fmt.Sprintf("key%03d", 2*i), i%5+1, fmt.Sprint("value ", i))
	}
	return out
}

// versions: n entries of one key.
func versions(key string, n int) []api.Entry {
	out := make([]api.Entry, n)
	for i := range out {
		out[i] = put(key, 10*(n-i), fmt.Sprint("value ", i))
	}
	return out
}

// largest: as many entries as a table may have, each of them as large as one may be.
func largest() []api.Entry {
	out := make([]api.Entry, 84)
	for i := range out {
		out[i] = put(fmt.Sprintf("%064d", i), 1<<62, strings.Repeat(fmt.Sprint(i%10), 1024))
	}
	return out
}

// shown: anything as a text that is not too long, and has no bytes that can't be printed.
func shown(v any) string {
	return fmt.Sprintf("%.300q", fmt.Sprint(v))
}

func wantBuild(t *testing.T, what string, entries []api.Entry, code api.Errno) {
	t.Helper()
	b, e := sstable.Build(entries)
	if e != code || (len(b) == 0) != (code != api.OK) {
		t.Errorf("P6.1: Build of %s: %d bytes, %d, want %d", what, len(b), e, code)
	}
}

// wantNoTable: Parse rejects these bytes, and yields no reader.
func wantNoTable(t *testing.T, what string, b []byte) {
	t.Helper()
	if r, e := sstable.Parse(b); r != nil || e != api.ErrTable {
		t.Errorf("P6.1: Parse of %s: a reader is %t, %d", what, r != nil, e)
	}
}

func built(t *testing.T, entries []api.Entry) []byte {
	t.Helper()
	b, e := sstable.Build(entries)
	if e != api.OK {
		t.Fatalf("P6.1: Build(%s): %d", shown(entries), e)
	}
	return b
}

func parsed(t *testing.T, b []byte) *sstable.Reader {
	t.Helper()
	r, e := sstable.Parse(b)
	if e != api.OK || r == nil {
		t.Fatalf("P6.1: Parse of %d bytes: %d", len(b), e)
	}
	return r
}

func readerOf(t *testing.T, entries []api.Entry) *sstable.Reader {
	t.Helper()
	return parsed(t, built(t, entries))
}

func wantGet(t *testing.T, r *sstable.Reader, key string, seq int, e api.Entry, ok bool) {
	t.Helper()
	if got, there := r.Get(key, seq); got != e || there != ok {
		t.Errorf("P6.1: Get(%.80q, %d): %s, %t, want %s, %t", key, seq, shown(got), there, shown(e), ok)
	}
}

func wantEntries(t *testing.T, what string, got, want []api.Entry) {
	t.Helper()
	if !slices.Equal(got, want) {
		t.Errorf("%s: %s, want %s", what, shown(got), shown(want))
	}
}

// bytesOf: of hexadecimal digits.
func bytesOf(t *testing.T, parts ...string) []byte {
	t.Helper()
	b, err := hex.DecodeString(strings.ReplaceAll(strings.Join(parts, ""), " ", ""))
	if err != nil {
		t.Fatal(err)
	}
	return b
}

func TestExample(t *testing.T) {
	a1 := put("a", 1, "x")
	b := built(t, []api.Entry{a1})
	want := bytesOf(t,
		"06 d183b521 0161 01 00 0178",
		"09 177c9299 1004000000100441 06",
		"07 68466e32 01 0161 0161 00 0b",
		"0b000000 19000000 63767431")
	if !bytes.Equal(b, want) {
		t.Errorf("P6.1: Build: %x, want %x", b, want)
	}
	r := parsed(t, b)
	if r.Len() != 1 || r.First() != "a" || r.Last() != "a" {
		t.Errorf("P6.1: Len %d, First %q, Last %q", r.Len(), r.First(), r.Last())
	}
	wantGet(t, r, "a", 5, a1, true)
	wantGet(t, r, "a", 0, api.Entry{}, false)
	wantGet(t, r, "b", 5, api.Entry{}, false)
	wantBuild(t, "b ahead of a", []api.Entry{put("b", 1, "x"), a1}, api.ErrOrder)
	wantBuild(t, "a 1 twice", []api.Entry{a1, a1}, api.ErrOrder)
	wantBuild(t, "a 1 ahead of a 2", []api.Entry{a1, put("a", 2, "x")}, api.ErrOrder)
}

// TestBytesWorkedOutByHand: two blocks, a key in both of them and twice in the first, a deletion, a key of no bytes, the greatest number.
func TestBytesWorkedOutByHand(t *testing.T) {
	entries := []api.Entry{put("", 300, "hi"), gone("a", 9), put("a", 2, ""), put("\xff\x00", 1<<62, "yz")}
	want := bytesOf(t,
		"11 93818e48 00 ac02 00 026869 0161 09 01 00 0161 02 00 00",
		"10 d05c9390 02ff00 808080808080808040 00 02797a",
		"09 ea8d1afc 700c280202918461 06",
		"0e e6ca63e0 02 00 0161 00 16 02ff00 02ff00 16 15",
		"2b000000 39000000 63767431")
	if got := built(t, entries); !bytes.Equal(got, want) {
		t.Errorf("P6.1: Build: %x, want %x", got, want)
	}
	r := parsed(t, want)
	wantEntries(t, "P6.2: All", r.All(), entries)
	if r.Len() != 4 || r.First() != "" || r.Last() != "\xff\x00" {
		t.Errorf("P6.1: Len %d, First %q, Last %q", r.Len(), r.First(), r.Last())
	}
}

func TestBuildTakesEntriesAlone(t *testing.T) {
	longKey, longValue := strings.Repeat("k", 65), strings.Repeat("v", 1025)
	for _, c := range []struct {
		what string
		e    api.Entry
		code api.Errno
	}{
		{"the longest key and value", put(longKey[:64], 1, longValue[:1024]), api.OK},
		{"neither key nor value", put("", 1, ""), api.OK},
		{"the greatest number", put("a", 1<<62, "x"), api.OK},
		{"a deletion", gone("a", 1), api.OK},
		{"a key of one byte too many", put(longKey, 1, "x"), api.ErrLong},
		{"a value of one byte too many", put("a", 1, longValue), api.ErrLong},
		{"too long a key before a number of 0", put(longKey, 0, "x"), api.ErrLong},
		{"a deletion with too long a value", api.Entry{Key: "a", Seq: 1, Del: true, Value: longValue}, api.ErrLong},
		{"a number of 0", put("a", 0, "x"), api.ErrRange},
		{"a negative number", put("a", math.MinInt, "x"), api.ErrRange},
		{"a number above the greatest", put("a", 1<<62+1, "x"), api.ErrRange},
		{"the greatest int", put("a", math.MaxInt, "x"), api.ErrRange},
		{"a deletion with a value", api.Entry{Key: "a", Seq: 1, Del: true, Value: "x"}, api.ErrRange},
	} {
		wantBuild(t, c.what, []api.Entry{c.e}, c.code)
	}
}

func TestBuildTellsTheFirstError(t *testing.T) {
	long, none, a1, a2, b1 := put(strings.Repeat("k", 65), 1, ""), put("z", 0, ""), put("a", 1, ""), put("a", 2, ""), put("b", 1, "")
	for _, c := range []struct {
		what    string
		entries []api.Entry
		code    api.Errno
	}{
		{"nil", nil, api.ErrNone},
		{"no entries", []api.Entry{}, api.ErrNone},
		{"84 entries", numbered(84), api.OK},
		{"85 entries", numbered(85), api.ErrFull},
		{"85 entries that are none", make([]api.Entry, 85), api.ErrFull},
		{"85 entries out of order", append([]api.Entry{b1}, numbered(84)...), api.ErrFull},
		{"84 entries that are none", make([]api.Entry, 84), api.ErrRange},
		{"10000 entries", make([]api.Entry, 10000), api.ErrFull},
		{"a newer one ahead of an older one", []api.Entry{a2, a1}, api.OK},
		{"the same with another value", []api.Entry{put("a", 1, "x"), put("a", 1, "y")}, api.ErrOrder},
		{"the same, deleted", []api.Entry{a1, gone("a", 1)}, api.ErrOrder},
		{"a prefix behind what continues it", []api.Entry{put("ab", 1, ""), a1}, api.ErrOrder},
		{"a byte above 127 ahead of one below", []api.Entry{put("\x80", 1, ""), put("\x7f", 1, "")}, api.ErrOrder},
		{"out of order at the end alone", append(numbered(20), put("key", 1, "")), api.ErrOrder},
		{"too long a key, then one out of order", []api.Entry{long, b1, a1}, api.ErrLong},
		{"a number of 0, then too long a key", []api.Entry{none, long}, api.ErrRange},
		{"too long a key, then a number of 0", []api.Entry{long, none}, api.ErrLong},
		{"one out of order, then too long a key", []api.Entry{b1, a1, long}, api.ErrOrder},
		{"one out of order, then a number of 0", []api.Entry{b1, a1, none}, api.ErrOrder},
		{"one out of order with a number of 0", []api.Entry{b1, put("a", 0, "")}, api.ErrRange},
		{"one out of order with too long a value", []api.Entry{b1, put("a", 1, strings.Repeat("v", 1025))}, api.ErrLong},
	} {
		wantBuild(t, c.what, c.entries, c.code)
	}
}

// TestTablesAreReadBack: of each number of entries, with many blocks or few, one key or many.
func TestTablesAreReadBack(t *testing.T) {
	for n := 1; n <= 84; n++ {
		for _, entries := range [][]api.Entry{numbered(n), versions("a", n), largest()[:n]} {
			b := built(t, entries)
			if want := drafted(chunked(entries)).bytes(); !bytes.Equal(b, want) {
				t.Fatalf("P6.1: Build(%s): %.300x, want %.300x", shown(entries), b, want)
			}
			if !bytes.Equal(b, built(t, slices.Clone(entries))) {
				t.Errorf("P6.2: two tables of %s differ", shown(entries))
			}
			r := parsed(t, b)
			wantEntries(t, "P6.2: All", r.All(), entries)
			if r.Len() != n || r.First() != entries[0].Key || r.Last() != entries[n-1].Key || r.Blocks() != 0 {
				t.Errorf("P6.1: of %d entries: Len %d, First %q, Last %q, Blocks %d", n, r.Len(), r.First(), r.Last(), r.Blocks())
			}
		}
	}
}

func TestGetOfManyVersions(t *testing.T) {
	entries := slices.Concat([]api.Entry{put("a", 5, "x")}, versions("b", 10), []api.Entry{gone("c", 7), put("c", 3, "y")})
	r := readerOf(t, entries)
	for _, c := range []struct {
		key  string
		seq  int
		want int // its place among the entries; -1 for none
	}{
		{"a", 4, -1}, {"a", 5, 0}, {"a", 6, 0}, {"a", math.MaxInt, 0}, {"a", 0, -1}, {"a", -1, -1}, {"a", math.MinInt, -1},
		{"b", 9, -1}, {"b", 10, 10}, {"b", 11, 10}, {"b", 19, 10}, {"b", 20, 9}, {"b", 55, 6}, {"b", 99, 2}, {"b", 100, 1}, {"b", 101, 1}, {"b", math.MaxInt, 1},
		{"c", 2, -1}, {"c", 3, 12}, {"c", 6, 12}, {"c", 7, 11}, {"c", 1 << 62, 11},
		{"", 9, -1}, {"aa", 9, -1}, {"bb", 99, -1}, {"d", 9, -1}, {"b\x00", 99, -1}, {strings.Repeat("b", 100), 9, -1},
	} {
		if c.want < 0 {
			wantGet(t, r, c.key, c.seq, api.Entry{}, false)
		} else {
			wantGet(t, r, c.key, c.seq, entries[c.want], true)
		}
	}
}

func TestFrom(t *testing.T) {
	entries := []api.Entry{put("", 2, "x"), put("a", 3, "x"), gone("a", 2), put("a", 1, "z"), put("ab", 1, ""), put("b", 9, ""), put("\xff", 1, "")}
	r := readerOf(t, entries)
	for _, c := range []struct {
		key   string
		start int
	}{
		{"", 0}, {"\x00", 1}, {"Z", 1}, {"a", 1}, {"a\x00", 4}, {"aa", 4}, {"ab", 4}, {"abc", 5}, {"b", 5}, {"b\xff", 6}, {"\xff", 6}, {"\xff\x00", 7}, {strings.Repeat("\xff", 99), 7},
	} {
		from := r.From(c.key)
		for range 3 { // R9: traversed again
			wantEntries(t, fmt.Sprintf("P6.1: From(%q)", c.key), slices.Collect(from), entries[c.start:])
		}
		for most := range len(entries) - c.start { // R9: stopped early
			var got []api.Entry
			for e := range from {
				if got = append(got, e); len(got) > most {
					break
				}
			}
			wantEntries(t, fmt.Sprintf("P6.1: From(%q), stopped", c.key), got, entries[c.start:c.start+most+1])
		}
	}
	if r.Blocks() != 0 {
		t.Errorf("P6.3: From counts as a Get: %d", r.Blocks())
	}
}

// TestBlocksOfGets: keys of their own are found in one block, those outside all blocks in none.
func TestBlocksOfGets(t *testing.T) {
	entries := numbered(84)
	r := readerOf(t, entries)
	for i, e := range entries {
		wantGet(t, r, e.Key, 9, e, true)
		if r.Blocks() != i+1 {
			t.Fatalf("P6.3: Blocks %d behind %d Gets", r.Blocks(), i+1)
		}
	}
	for i := range 1000 {
		wantGet(t, r, fmt.Sprintf("%d", i), 9, api.Entry{}, false)      // ahead of all
		wantGet(t, r, fmt.Sprintf("z%d", i), 9, api.Entry{}, false)     // behind all
		wantGet(t, r, entries[i%27*3+2].Key+"+", 0, api.Entry{}, false) // between two blocks
	}
	if r.Blocks() != 84 {
		t.Errorf("P6.3: Blocks %d: Gets examined blocks in which the key can't be", r.Blocks())
	}
	wantEntries(t, "P6.1: All behind the Gets", r.All(), entries)
	if r.Len() != 84 || r.First() != entries[0].Key || r.Last() != entries[83].Key {
		t.Errorf("P6.1: behind the Gets: Len %d, First %q, Last %q", r.Len(), r.First(), r.Last())
	}
	if r.Blocks() != 84 || readerOf(t, entries).Blocks() != 0 {
		t.Errorf("P6.1: Blocks counts more than the Gets of this reader: %d", r.Blocks())
	}
}

func TestTheReaderKeepsNothingOfTheBytes(t *testing.T) {
	entries := numbered(30)
	room := append(built(t, entries), 1, 2, 3, 4)
	b := room[:len(room)-4]
	before := slices.Clone(room)
	r := parsed(t, b)
	wantNoTable(t, "the bytes with those behind them", room)
	if !bytes.Equal(room, before) {
		t.Error("P6.4: Parse changed the bytes, or those behind them")
	}
	for i := range room {
		room[i] ^= 0xff
	}
	wantEntries(t, "P6.4: All", r.All(), entries)
	wantEntries(t, "P6.4: From", slices.Collect(r.From("")), entries)
	for _, e := range entries {
		wantGet(t, r, e.Key, 9, e, true)
	}
}

func TestBuildLeavesTheEntries(t *testing.T) {
	for _, entries := range [][]api.Entry{numbered(50), versions("a", 50)} {
		room := slices.Clone(entries)
		b := built(t, room[:40])
		want := slices.Clone(b)
		wantEntries(t, "P6.4: the entries behind Build", room, entries)
		clear(room)
		if !bytes.Equal(b, want) {
			t.Error("P6.4: the bytes hang on the entries")
		}
	}
}

func TestResultsAreNewMemory(t *testing.T) {
	entries := numbered(20)
	one, other := built(t, entries), built(t, entries)
	want := slices.Clone(other)
	clear(one[:cap(one)])
	if !bytes.Equal(other, want) || !bytes.Equal(built(t, entries), want) {
		t.Error("P6.4: two tables share memory")
	}
	r := parsed(t, other)
	from := r.From("")
	list, second := r.All(), r.All()
	clear(list[:cap(list)])
	wantEntries(t, "P6.4: a list that was made before another one was cleared", second, entries)
	wantEntries(t, "P6.4: All behind a list that was cleared", r.All(), entries)
	wantEntries(t, "P6.4: From behind a list that was cleared", slices.Collect(from), entries)
	wantGet(t, r, entries[7].Key, 9, entries[7], true)
}
