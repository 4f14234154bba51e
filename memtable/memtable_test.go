package memtable_test

import (
	"fmt"
	"iter"
	"math"
	"slices"
	"strings"
	"testing"

	"convoy/api"
	"convoy/memtable"
)

func put(key string, seq int, value string) api.Entry {
	return api.Entry{Key: key, Seq: seq, Value: value}
}

func gone(key string, seq int) api.Entry {
	return api.Entry{Key: key, Seq: seq, Del: true}
}

// shown: an entry or a list as a text that is not too long, and has no bytes that can't be printed.
func shown(v any) string {
	return fmt.Sprintf("%.300q", fmt.Sprint(v))
}

func wantPut(t *testing.T, m *memtable.Table, e api.Entry, height int, code api.Errno) {
	t.Helper()
	if got := m.Put(e, height); got != code {
		t.Errorf("P4.1: Put(%s, %d): %d, want %d", shown(e), height, got, code)
	}
}

// filled: a table with these entries, put in this order, with towers of many heights.
func filled(t *testing.T, entries ...api.Entry) *memtable.Table {
	t.Helper()
	m := memtable.New()
	for i, e := range entries {
		wantPut(t, m, e, i*5%14, api.OK)
	}
	return m
}

func wantGet(t *testing.T, m *memtable.Table, key string, seq int, e api.Entry, ok bool) {
	t.Helper()
	if got, there := m.Get(key, seq); got != e || there != ok {
		t.Errorf("P4.1: Get(%.80q, %d): %s, %t, want %s, %t", key, seq, shown(got), there, shown(e), ok)
	}
}

func wantEntries(t *testing.T, what string, got []api.Entry, entries ...api.Entry) {
	t.Helper()
	if !slices.Equal(got, entries) {
		t.Errorf("%s: %s, want %s", what, shown(got), shown(entries))
	}
}

// wantTable: all that the table tells without an argument.
func wantTable(t *testing.T, m *memtable.Table, bytes int, entries ...api.Entry) {
	t.Helper()
	wantEntries(t, "P4.1: All", m.All(), entries...)
	if m.Len() != len(entries) || m.Bytes() != bytes {
		t.Errorf("P4.1: Len %d, Bytes %d, want %d, %d", m.Len(), m.Bytes(), len(entries), bytes)
	}
}

func TestExample(t *testing.T) {
	a1, b2, a3, b4 := put("a", 1, "x"), put("b", 2, "y"), put("a", 3, "z"), gone("b", 4)
	m := filled(t, a1, b2, a3, b4)
	wantGet(t, m, "a", 2, a1, true)
	wantGet(t, m, "a", 9, a3, true)
	wantGet(t, m, "b", 4, b4, true)
	wantGet(t, m, "b", 1, api.Entry{}, false)
	wantTable(t, m, 7, a3, a1, b4, b2)
	wantPut(t, m, put("a", 3, "q"), 1, api.ErrTwice)
	wantTable(t, m, 7, a3, a1, b4, b2)
}

func TestANewTableIsEmpty(t *testing.T) {
	m := memtable.New()
	wantTable(t, m, 0)
	for _, seq := range []int{math.MinInt, 0, 1, math.MaxInt} {
		wantGet(t, m, "", seq, api.Entry{}, false)
		wantGet(t, m, "a", seq, api.Entry{}, false)
	}
	wantEntries(t, "P4.1: From", slices.Collect(m.From("")))
}

func TestPutTakesEntriesAlone(t *testing.T) {
	longKey, longValue := strings.Repeat("k", 65), strings.Repeat("v", 1025)
	for _, c := range []struct {
		what string
		e    api.Entry
		code api.Errno
	}{
		{"the longest key and value", put(longKey[:64], 1, longValue[:1024]), api.OK},
		{"the longest key, deleted", gone(longKey[:64], 1), api.OK},
		{"a key of one byte too many", put(longKey, 1, "x"), api.ErrLong},
		{"a value of one byte too many", put("a", 1, longValue), api.ErrLong},
		{"both too long", put(longKey, 1, longValue), api.ErrLong},
		{"a very long key", put(strings.Repeat("k", 1<<20), 1, ""), api.ErrLong},
		{"64 letters of more than a byte each", put(strings.Repeat("ü", 64), 1, ""), api.ErrLong},
		{"32 letters of two bytes each", put(strings.Repeat("ü", 32), 1, ""), api.OK},
		{"no key", put("", 1, "x"), api.OK},
		{"no value", put("a", 1, ""), api.OK},
		{"no key, deleted", gone("", 1), api.OK},
		{"the least number", put("a", 1, "x"), api.OK},
		{"the greatest number", put("a", 1<<62, "x"), api.OK},
		{"the greatest number, deleted", gone("a", 1<<62), api.OK},
		{"a number of 0", put("a", 0, "x"), api.ErrRange},
		{"a negative number", put("a", -1, "x"), api.ErrRange},
		{"the least int", put("a", math.MinInt, "x"), api.ErrRange},
		{"a number above the greatest", put("a", 1<<62+1, "x"), api.ErrRange},
		{"the greatest int", put("a", math.MaxInt, "x"), api.ErrRange},
		{"deleted, a number of 0", gone("a", 0), api.ErrRange},
		{"deleted, with a value", api.Entry{Key: "a", Seq: 1, Del: true, Value: "x"}, api.ErrRange},
		{"deleted, with a value of a byte 0", api.Entry{Key: "a", Seq: 1, Del: true, Value: "\x00"}, api.ErrRange},
		{"nothing", api.Entry{}, api.ErrRange},
		{"too long a key before a number of 0", put(longKey, 0, "x"), api.ErrLong},
		{"too long a value before a number of 0", put("a", 0, longValue), api.ErrLong},
		{"too long a value before it is deleted", api.Entry{Key: "a", Seq: 1, Del: true, Value: longValue}, api.ErrLong},
	} {
		m := memtable.New()
		if got := m.Put(c.e, 3); got != c.code {
			t.Errorf("P4.1: Put of %s: %d, want %d", c.what, got, c.code)
		}
		if c.code != api.OK {
			wantTable(t, m, 0)
			continue
		}
		wantTable(t, m, len(c.e.Key)+len(c.e.Value), c.e)
		wantGet(t, m, c.e.Key, c.e.Seq, c.e, true)
	}
}

func TestPutTakesAKeyAndNumberOnce(t *testing.T) {
	a, b := put("a", 5, "x"), gone("b", 5)
	m := filled(t, a, b)
	for _, height := range []int{math.MinInt, 1, 12, math.MaxInt} {
		wantPut(t, m, a, height, api.ErrTwice)
		wantPut(t, m, put("a", 5, "other"), height, api.ErrTwice)
		wantPut(t, m, gone("a", 5), height, api.ErrTwice)
		wantPut(t, m, b, height, api.ErrTwice)
		wantPut(t, m, put("b", 5, "x"), height, api.ErrTwice)
		wantPut(t, m, put("a", 5, strings.Repeat("v", 1025)), height, api.ErrLong)
		wantPut(t, m, api.Entry{Key: "a", Seq: 5, Del: true, Value: "x"}, height, api.ErrRange)
		wantTable(t, m, 3, a, b)
	}
	wantPut(t, m, put("a", 4, ""), 2, api.OK)
	wantPut(t, m, put("a", 6, ""), 2, api.OK)
	wantPut(t, m, put("", 5, ""), 2, api.OK)
	wantPut(t, m, put("c", 5, ""), 2, api.OK)
	wantTable(t, m, 6, put("", 5, ""), put("a", 6, ""), a, put("a", 4, ""), b, put("c", 5, ""))
}

// ordered: entries in their order, as the chapter tells it: byte by byte, a prefix before what continues it, the newest of a key first.
func ordered() []api.Entry {
	return []api.Entry{
		put("", 2, "none"), gone("", 1),
		put("\x00", 7, ""), put("\x00\x00", 9, ""),
		put("A", 3, "upper"), put("Z", 3, ""),
		put("a", 1<<62, "last"), gone("a", 10), put("a", 9, "nine"), put("a", 1, "one"),
		put("a\x00", 4, ""), put("a\x00b", 4, ""), put("aa", 5, ""), put("ab", 1, ""),
		put("b", 2, ""), put("b10", 2, ""), put("b9", 2, ""),
		put(strings.Repeat("c", 63), 1, ""), put(strings.Repeat("c", 64), 1, ""), put("d", 1, ""),
		put("\x7f", 1, ""), put("\x80", 1, ""), put("\u00e9", 1, ""), put("\u20ac", 1, ""), put("\U0001f600", 1, ""), put("\xff", 1, ""), put("\xff\xff", 1, ""),
	}
}

func TestAllHasTheEntriesInTheirOrder(t *testing.T) {
	sorted := ordered()
	bytes := 0
	for _, e := range sorted {
		bytes += len(e.Key) + len(e.Value)
	}
	wantTable(t, filled(t, sorted...), bytes, sorted...)
	backwards := slices.Clone(sorted)
	slices.Reverse(backwards)
	wantTable(t, filled(t, backwards...), bytes, sorted...)
	m := mixer(1)
	for range 50 {
		wantTable(t, filled(t, m.shuffled(sorted)...), bytes, sorted...)
	}
}

func TestGetFindsTheNewestThatIsNotAboveANumber(t *testing.T) {
	sorted := ordered()
	m := filled(t, sorted...)
	last, ten, nine, one := sorted[6], sorted[7], sorted[8], sorted[9]
	for _, c := range []struct {
		seq int
		e   api.Entry
	}{
		{math.MaxInt, last}, {1<<62 + 1, last}, {1 << 62, last}, {1<<62 - 1, ten}, {11, ten}, {10, ten}, {9, nine}, {8, one}, {2, one}, {1, one},
		{0, api.Entry{}}, {-1, api.Entry{}}, {math.MinInt, api.Entry{}},
	} {
		wantGet(t, m, "a", c.seq, c.e, c.e.Seq > 0)
	}
	wantGet(t, m, "", math.MaxInt, sorted[0], true)
	wantGet(t, m, "", 1, sorted[1], true)
	wantGet(t, m, "\xff\xff", 1, sorted[len(sorted)-1], true)
	wantGet(t, m, "Z", 2, api.Entry{}, false)
	for _, key := range []string{"B", "\x00\x00\x00", "a\x01", "ac", strings.Repeat("c", 65), strings.Repeat("a", 100000), "\xff\xfe", "\xff\xff\xff"} {
		wantGet(t, m, key, math.MaxInt, api.Entry{}, false)
		wantGet(t, m, key, 1, api.Entry{}, false)
	}
}

func TestFromStartsAtAKey(t *testing.T) {
	sorted := ordered()
	m := filled(t, sorted...)
	keys := []string{"B", "a\x01", "ac", strings.Repeat("c", 65), "\x81", "\xff\xff\xff", strings.Repeat("z", 100000)}
	for _, e := range sorted {
		keys = append(keys, e.Key)
	}
	for _, key := range keys {
		rest := slices.DeleteFunc(slices.Clone(sorted), func(e api.Entry) bool { return e.Key < key })
		wantEntries(t, fmt.Sprintf("P4.1: From(%.80q)", key), slices.Collect(m.From(key)), rest...)
	}
}

// firsts: what an iterator yields to one who stops after n entries.
func firsts(seq iter.Seq[api.Entry], n int) []api.Entry {
	var out []api.Entry
	for e := range seq {
		out = append(out, e)
		if len(out) == n {
			break
		}
	}
	return out
}

func TestAnIteratorIsTraversedAnyNumberOfTimes(t *testing.T) {
	sorted := ordered()
	from := filled(t, sorted...).From("a")
	rest := sorted[6:]
	for n := range rest {
		wantEntries(t, "P8: From, stopped early", firsts(from, n+1), rest[:n+1]...)
		wantEntries(t, "P8: From, once more", slices.Collect(from), rest...)
	}
	outer := 0
	for e := range from {
		if e != rest[outer] {
			t.Errorf("P8: an outer traversal: %s, want %s", shown(e), shown(rest[outer]))
		}
		wantEntries(t, "P8: an inner traversal", slices.Collect(from), rest...)
		outer++
	}
	if outer != len(rest) {
		t.Errorf("P8: an outer traversal of %d entries, want %d", outer, len(rest))
	}
}

func TestAPutDoesNotAffectAnIterator(t *testing.T) {
	b, d := put("b", 5, "x"), put("d", 5, "y")
	m := memtable.New()
	none := m.From("")
	wantPut(t, m, d, 4, api.OK)
	wantPut(t, m, b, 2, api.OK)
	all, some, last, behind := m.From(""), m.From("b"), m.From("c"), m.From("e")
	later := []api.Entry{put("a", 1, ""), put("b", 9, ""), put("b", 1, ""), gone("c", 7), put("d", 6, ""), gone("d", 4), put("e", 1, ""), put("", 1, "")}
	for i, e := range later {
		if i%2 == 0 { // they are also traversed between the Puts
			wantEntries(t, "P4.3: From, between", slices.Collect(all), b, d)
		}
		wantPut(t, m, e, i*3%13, api.OK)
		wantPut(t, m, b, 1, api.ErrTwice)
	}
	for range 2 {
		wantEntries(t, "P4.3: From of an empty table", slices.Collect(none))
		wantEntries(t, "P4.3: From(\"\")", slices.Collect(all), b, d)
		wantEntries(t, "P4.3: From(b)", slices.Collect(some), b, d)
		wantEntries(t, "P4.3: From(c)", slices.Collect(last), d)
		wantEntries(t, "P4.3: From(e)", slices.Collect(behind))
		wantEntries(t, "P4.3: From(\"\"), stopped early", firsts(all, 1), b)
	}
	wantEntries(t, "P4.3: From, now", slices.Collect(m.From("d")), later[4], d, later[5], later[6])
}

func TestPutsDuringATraversal(t *testing.T) {
	sorted := ordered()
	m := filled(t, sorted...)
	var got []api.Entry
	for e := range m.From("") {
		got = append(got, e)
		wantPut(t, m, put(e.Key, 1<<61+len(got), "before"), 12, api.OK)
		wantPut(t, m, put(e.Key+"\x00!"[:min(2, 64-len(e.Key))], 1<<60+len(got), "behind"), 1, api.OK)
	}
	wantEntries(t, "P4.3: From, with Puts on its way", got, sorted...)
	if m.Len() != 3*len(sorted) {
		t.Errorf("P4.1: Len %d, want %d", m.Len(), 3*len(sorted))
	}
}

func TestListsAreNewMemory(t *testing.T) {
	sorted := ordered()
	m := filled(t, sorted...)
	one, other, from := m.All(), m.All(), m.From("")
	clear(one[:cap(one)])
	wantEntries(t, "P4.3: another list", other, sorted...)
	wantEntries(t, "P4.3: All", m.All(), sorted...)
	wantEntries(t, "P4.3: From", slices.Collect(from), sorted...)
	wantPut(t, m, put("a", 5, "new"), 6, api.OK)
	wantEntries(t, "P4.3: a list behind a Put", other, sorted...)
	_ = append(other[:3], put("x", 1, ""), put("y", 1, ""))
	wantGet(t, m, sorted[4].Key, sorted[4].Seq, sorted[4], true)
	if len(m.All()) != len(sorted)+1 {
		t.Errorf("P4.3: All of %d entries, want %d", len(m.All()), len(sorted)+1)
	}
}

func TestTwoTables(t *testing.T) {
	m, n := memtable.New(), memtable.New()
	a, b := put("a", 1, "x"), put("a", 2, "yy")
	wantPut(t, m, a, 12, api.OK)
	from := m.From("")
	wantPut(t, n, b, 12, api.OK)
	wantPut(t, n, a, 12, api.OK)
	wantTable(t, m, 2, a)
	wantTable(t, n, 5, b, a)
	wantEntries(t, "P4.3: From of another table", slices.Collect(from), a)
}

func TestReadingChangesNothing(t *testing.T) {
	sorted := ordered()
	m := filled(t, sorted...)
	for range 3 {
		m.Get("a", 5)
		m.Get("none", 5)
		clear(m.All())
		for range m.From("a") {
		}
	}
	wantEntries(t, "P4.1: All", m.All(), sorted...)
}
