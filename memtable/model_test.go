package memtable_test

import (
	"cmp"
	"fmt"
	"math"
	"slices"
	"strings"
	"testing"

	"convoy/api"
	"convoy/memtable"
)

// model: a table as the chapter tells it, written once more in the plainest form: the entries as they came.
type model struct {
	entries []api.Entry
}

func (m *model) put(e api.Entry) api.Errno {
	switch {
	case len(e.Key) > 64, len(e.Value) > 1024:
		return api.ErrLong
	case e.Seq < 1, e.Seq > 4611686018427387904, e.Del && len(e.Value) > 0:
		return api.ErrRange
	}
	for _, o := range m.entries {
		if o.Key == e.Key && o.Seq == e.Seq {
			return api.ErrTwice
		}
	}
	m.entries = append(m.entries, e)
	return api.OK
}

func (m *model) get(key string, seq int) (api.Entry, bool) {
	var newest api.Entry
	for _, e := range m.entries {
		if e.Key == key && e.Seq <= seq && e.Seq > newest.Seq {
			newest = e
		}
	}
	return newest, newest.Seq > 0
}

func (m *model) from(key string) []api.Entry {
	var out []api.Entry
	for _, e := range m.entries {
		if e.Key >= key {
			out = append(out, e)
		}
	}
	slices.SortFunc(out, func(a, b api.Entry) int {
		return cmp.Or(strings.Compare(a.Key, b.Key), cmp.Compare(b.Seq, a.Seq))
	})
	return out
}

func (m *model) bytes() int {
	n := 0
	for _, e := range m.entries {
		n += len(e.Key + e.Value)
	}
	return n
}

// seen: an iterator, and what it must yield whenever it is traversed.
type seen struct {
	entries func(yield func(api.Entry) bool)
	want    []api.Entry
}

// pair: a table, the model that has had the same calls, and the iterators so far.
type pair struct {
	table *memtable.Table
	model model
	seen  []seen
}

// put makes a Put, with an iterator from this key ahead of it; it tells a difference, or nothing.
func (p *pair) put(e api.Entry, height int, key string) string {
	p.seen = append(p.seen, seen{p.table.From(key), p.model.from(key)})
	if got, want := p.table.Put(e, height), p.model.put(e); got != want {
		return fmt.Sprintf("P4.1: %d, want %d", got, want)
	}
	return ""
}

// difference tells in what the table differs from the model, or nothing.
func (p *pair) difference(keys []string, seqs []int) string {
	if got, want := p.table.All(), p.model.from(""); !slices.Equal(got, want) {
		return fmt.Sprintf("P4.1: All: %s, want %s", shown(got), shown(want))
	}
	if p.table.Len() != len(p.model.entries) || p.table.Bytes() != p.model.bytes() {
		return fmt.Sprintf("P4.1: Len %d, Bytes %d, want %d, %d", p.table.Len(), p.table.Bytes(), len(p.model.entries), p.model.bytes())
	}
	for _, key := range keys {
		if got, want := slices.Collect(p.table.From(key)), p.model.from(key); !slices.Equal(got, want) {
			return fmt.Sprintf("P4.1: From(%q): %s, want %s", key, shown(got), shown(want))
		}
		for _, seq := range seqs {
			got, ok := p.table.Get(key, seq)
			if want, there := p.model.get(key, seq); got != want || ok != there {
				return fmt.Sprintf("P4.1: Get(%q, %d): %s, %t, want %s, %t", key, seq, shown(got), ok, shown(want), there)
			}
		}
	}
	for i, s := range p.seen {
		if got := slices.Collect(s.entries); !slices.Equal(got, s.want) {
			return fmt.Sprintf("P4.3: the iterator ahead of Put %d: %s, want %s", i, shown(got), shown(s.want))
		}
	}
	return ""
}

// move: a Put.
type move struct {
	e      api.Entry
	height int
}

// run makes the Puts one after another; the table must agree with the model after each of them.
func run(t *testing.T, moves []move, keys []string, seqs []int) {
	t.Helper()
	p := &pair{table: memtable.New()}
	for i, w := range moves {
		s := p.put(w.e, w.height, keys[i%len(keys)])
		if s == "" {
			s = p.difference(keys, seqs)
		}
		if s != "" {
			t.Fatalf("after the Puts %s: %s", shown(moves[:i+1]), s)
		}
	}
}

func TestEveryShortSequence(t *testing.T) {
	var alphabet []move
	for i, e := range []api.Entry{put("", 1, "n"), put("a", 1, "x"), put("a", 2, ""), gone("a", 3), put("ab", 2, "yy"), gone("b", 1), put("b", 0, ""), gone("\xff", 3)} {
		alphabet = append(alphabet, move{e, 1 + i%3}, move{e, 3 - i%3})
	}
	keys, seqs := []string{"", "a", "aa", "b", "\xff\xff"}, []int{math.MinInt, 0, 1, 2, math.MaxInt}
	var grow func(moves []move)
	grow = func(moves []move) {
		if len(moves) == 4 {
			run(t, moves, keys, seqs)
			return
		}
		for _, w := range alphabet {
			grow(append(moves[:len(moves):len(moves)], w))
		}
	}
	grow(nil)
}

// mixer yields a fixed series of numbers (xorshift), so that every run of the tests is the same.
type mixer uint64

func (m *mixer) below(n int) int {
	*m ^= *m << 13
	*m ^= *m >> 7
	*m ^= *m << 17
	return int(uint64(*m) >> 11 % uint64(n))
}

func (m *mixer) shuffled(entries []api.Entry) []api.Entry {
	out := slices.Clone(entries)
	for i := range out {
		j := m.below(i + 1)
		out[i], out[j] = out[j], out[i]
	}
	return out
}

// text: of few letters, so that many are prefixes of others.
func (m *mixer) text(n int) string {
	b := make([]byte, n)
	for i := range b {
		b[i] = "\x00ab\xff"[m.below(4)]
	}
	return string(b)
}

// key: mostly short, seldom as long as a key may be.
func (m *mixer) key() string {
	if m.below(20) == 0 {
		return strings.Repeat("k", 60+m.below(6))
	}
	return m.text(m.below(4))
}

func (m *mixer) entry() api.Entry {
	e := api.Entry{Key: m.key(), Seq: m.below(12), Del: m.below(4) == 0}
	if !e.Del || m.below(9) == 0 {
		e.Value = m.text(m.below(5))
	}
	if m.below(9) == 0 {
		e.Seq = 1<<62 - 1 + m.below(3)
	}
	return e
}

// height: mostly as a coin tells, at times what is no height.
func (m *mixer) height() int {
	if m.below(9) == 0 {
		return []int{math.MinInt, -1, 0, 11, 12, 13, 64, math.MaxInt}[m.below(8)]
	}
	n := 1
	for m.below(2) == 0 {
		n++
	}
	return n
}

func (m *mixer) moves(n int) []move {
	var out []move
	for range n {
		out = append(out, move{m.entry(), m.height()})
	}
	return out
}

func TestLongSequences(t *testing.T) {
	for seed := range 100 {
		m := mixer(seed + 1)
		keys := []string{m.key(), "", m.key(), "a", m.key(), "b\xff", m.key()}
		run(t, m.moves(80), keys, []int{0, 1, 5, 9, 1 << 62, math.MaxInt})
	}
}

// told: all that a table tells behind these Puts with these heights.
func told(moves []move, height func(i int) int) string {
	p := &pair{table: memtable.New()}
	var out []any
	for i, w := range moves {
		from := p.table.From(w.e.Key)
		out = append(out, p.table.Put(w.e, height(i)), slices.Collect(from), p.table.Len(), p.table.Bytes())
		e, ok := p.table.Get(w.e.Key, w.e.Seq/2)
		out = append(out, e, ok)
	}
	return fmt.Sprint(append(out, p.table.All())...)
}

func TestHeightsDoNotMatter(t *testing.T) {
	heights := []int{math.MinInt, -12, -1, 0, 1, 2, 6, 11, 12, 13, 1 << 40, math.MaxInt}
	for seed := range 20 {
		m := mixer(seed + 1)
		moves := m.moves(60)
		want := told(moves, func(i int) int { return moves[i].height })
		for _, h := range heights {
			if got := told(moves, func(int) int { return h }); got != want {
				t.Errorf("P4.2: with towers of %d: %s, want %s", h, shown(got), shown(want))
			}
		}
		if got := told(moves, func(i int) int { return heights[i%len(heights)] }); got != want {
			t.Errorf("P4.2: with towers of all heights: %s, want %s", shown(got), shown(want))
		}
	}
}

func TestManyEntries(t *testing.T) {
	m := mixer(9)
	table := memtable.New()
	var sorted []api.Entry
	for i := range 30000 {
		sorted = append(sorted, put(fmt.Sprintf("key-%05d", i/3), 9-i%3, fmt.Sprint(i)))
	}
	for _, e := range m.shuffled(sorted) {
		wantPut(t, table, e, m.height(), api.OK)
	}
	wantEntries(t, "P4.1: All", table.All(), sorted...)
	for i, e := range sorted {
		wantGet(t, table, e.Key, e.Seq, e, true)
		if got := firsts(table.From(e.Key), 1); !slices.Equal(got, sorted[i/3*3:i/3*3+1]) {
			t.Fatalf("P4.1: From(%q): %s", e.Key, shown(got))
		}
	}
}
