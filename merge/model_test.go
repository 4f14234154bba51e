package merge_test

import (
	"cmp"
	"fmt"
	"slices"
	"strings"
	"testing"

	"convoy/api"
	"convoy/merge"
)

// mixer yields a fixed series of numbers (xorshift), so that every run of the tests is the same.
type mixer uint64

func (m *mixer) below(n int) int {
	*m ^= *m << 13
	*m ^= *m >> 7
	*m ^= *m << 17
	return int(uint64(*m) >> 11 % uint64(n))
}

func (m *mixer) text(n int) string {
	b := make([]byte, m.below(n+1))
	for i := range b {
		b[i] = "\x00abc\x80\xff"[m.below(6)]
	}
	return string(b)
}

func modelOrder(a, b api.Entry) int {
	return cmp.Or(strings.Compare(a.Key, b.Key), cmp.Compare(b.Seq, a.Seq))
}

// list: in order, of so many entries at most, with short keys and low numbers, so that some come up in several lists.
func (m *mixer) list(most int) []api.Entry {
	var out []api.Entry
	for range m.below(most + 1) {
		e := put(m.text(2), 1+m.below(8), m.text(3))
		if m.below(3) == 0 {
			e.Del, e.Value = true, ""
		}
		out = append(out, e)
	}
	slices.SortFunc(out, modelOrder)
	return slices.CompactFunc(out, func(a, b api.Entry) bool { return modelOrder(a, b) == 0 })
}

// The model is the chapter in its plainest form: sets are searched, and sorted at the end.

func modelMerge(lists [][]api.Entry) []api.Entry {
	var out []api.Entry
	for _, list := range lists {
		for _, e := range list {
			if !slices.ContainsFunc(out, func(o api.Entry) bool { return o.Key == e.Key && o.Seq == e.Seq }) {
				out = append(out, e)
			}
		}
	}
	slices.SortFunc(out, modelOrder)
	return out
}

// modelNewest: by keys, the number of the newest entry that isn't above seq.
func modelNewest(list []api.Entry, seq int) map[string]int {
	out := make(map[string]int)
	for _, e := range list {
		if old, ok := out[e.Key]; e.Seq <= seq && (!ok || e.Seq > old) {
			out[e.Key] = e.Seq
		}
	}
	return out
}

func modelVisible(list []api.Entry, seq int) []api.Pair {
	newest := modelNewest(list, seq)
	var out []api.Pair
	for _, e := range list {
		if at, ok := newest[e.Key]; ok && at == e.Seq && !e.Del {
			out = append(out, api.Pair{Key: e.Key, Value: e.Value})
		}
	}
	slices.SortFunc(out, func(a, b api.Pair) int { return strings.Compare(a.Key, b.Key) })
	return out
}

func modelCompact(list []api.Entry, floor int, bottom bool) []api.Entry {
	newest := modelNewest(list, floor)
	var out []api.Entry
	for _, e := range list {
		at, ok := newest[e.Key]
		switch {
		case e.Seq > floor:
			out = append(out, e)
		case !ok || at != e.Seq:
		case bottom && e.Del:
		default:
			out = append(out, e)
		}
	}
	return out
}

// everyList: of these keys and the numbers from 1 on: each entry is a value with this text, is a deletion, or is not there.
func everyList(keys []string, numbers int, value string) [][]api.Entry {
	lists := [][]api.Entry{nil}
	for _, key := range keys {
		for seq := numbers; seq >= 1; seq-- {
			var longer [][]api.Entry
			for _, list := range lists {
				longer = append(longer, list, append(slices.Clip(list), put(key, seq, value)), append(slices.Clip(list), gone(key, seq)))
			}
			lists = longer
		}
	}
	return lists
}

// visible: of a list in order.
func visible(t *testing.T, list []api.Entry, seq int) []api.Pair {
	t.Helper()
	pairs, code := merge.Visible(list, seq)
	if code != api.OK {
		t.Fatalf("P7.1: Visible(%s, %d): %d", shown(list), seq, code)
	}
	return pairs
}

// compacted: a list in order, which Compact must leave in order.
func compacted(t *testing.T, list []api.Entry, floor int, bottom bool) []api.Entry {
	t.Helper()
	kept, code := merge.Compact(list, floor, bottom)
	if code != api.OK {
		t.Fatalf("P7.1: Compact(%s, %d, %t): %d", shown(list), floor, bottom, code)
	}
	return kept
}

// merged: of lists in order.
func merged(t *testing.T, lists ...[]api.Entry) []api.Entry {
	t.Helper()
	all, code := merge.Merge(lists)
	if code != api.OK {
		t.Fatalf("P7.1: Merge(%s): %d", shown(lists), code)
	}
	return all
}

// wantAsTheModel: Visible and Compact at all numbers from -1 to 1 above the greatest of the list.
func wantAsTheModel(t *testing.T, list []api.Entry, most int) {
	t.Helper()
	for at := -1; at <= most+1; at++ {
		if got, want := visible(t, list, at), modelVisible(list, at); !slices.Equal(got, want) {
			t.Fatalf("P7.1: Visible(%s, %d): %s, want %s", shown(list), at, shown(got), shown(want))
		}
		for _, bottom := range []bool{false, true} {
			kept, want := compacted(t, list, at, bottom), modelCompact(list, at, bottom)
			if !slices.Equal(kept, want) {
				t.Fatalf("P7.1: Compact(%s, %d, %t): %s, want %s", shown(list), at, bottom, shown(kept), shown(want))
			}
			for seq := at; seq <= most+1; seq++ {
				if got, want := visible(t, kept, seq), visible(t, list, seq); !slices.Equal(got, want) {
					t.Fatalf("P7.2: Visible at %d of Compact(%s, %d, %t): %s, want %s", seq, shown(list), at, bottom, shown(got), shown(want))
				}
			}
		}
	}
}

func TestVisibleAndCompactOfEveryShortList(t *testing.T) {
	for _, list := range everyList([]string{"a", "b"}, 3, "x") {
		wantAsTheModel(t, list, 3)
	}
	for _, list := range everyList([]string{"", "\x00", "\xff"}, 2, "") {
		wantAsTheModel(t, list, 2)
	}
}

func TestVisibleAndCompactOfLongLists(t *testing.T) {
	m := mixer(7)
	for range 300 {
		wantAsTheModel(t, m.list(60), 8)
	}
}

// TestCompactionIsNotObservableBesideOtherLists: without bottom other lists may have entries of the keys, newer ones, older ones or the same.
func TestCompactionIsNotObservableBesideOtherLists(t *testing.T) {
	others := everyList([]string{"k"}, 4, "other")
	for _, list := range everyList([]string{"k"}, 4, "own") {
		for floor := -1; floor <= 5; floor++ {
			kept := compacted(t, list, floor, false)
			for _, other := range others {
				before, after := merged(t, list, other), merged(t, kept, other)
				for seq := floor; seq <= 5; seq++ {
					if got, want := visible(t, after, seq), visible(t, before, seq); !slices.Equal(got, want) {
						t.Fatalf("P7.2: Visible at %d of Compact(%s, %d, false) beside %s: %s, want %s", seq, shown(list), floor, shown(other), shown(got), shown(want))
					}
				}
			}
		}
	}
}

// wantMergeOfTheModel: Merge, and First of these numbers.
func wantMergeOfTheModel(t *testing.T, lists [][]api.Entry, numbers ...int) {
	t.Helper()
	want := modelMerge(lists)
	if got := merged(t, lists...); !slices.Equal(got, want) {
		t.Fatalf("P7.1: Merge(%s): %s, want %s", shown(lists), shown(got), shown(want))
	}
	for _, n := range numbers {
		if got, code := merge.First(lists, n); code != api.OK || !slices.Equal(got, want[:max(0, min(n, len(want)))]) {
			t.Fatalf("P7.1: First(%s, %d): %s, %d, want the first of %s", shown(lists), n, shown(got), code, shown(want))
		}
	}
}

func TestMergeOfEveryTwoShortLists(t *testing.T) {
	others := everyList([]string{"a", "b"}, 2, "second")
	for _, one := range everyList([]string{"a", "b"}, 2, "first") {
		for _, other := range others {
			wantMergeOfTheModel(t, [][]api.Entry{one, other}, -1, 0, 1, 2, 3, 4, 5)
		}
	}
}

func TestMergeOfEveryFourShortLists(t *testing.T) {
	var choices [4][][]api.Entry
	for i := range choices {
		choices[i] = everyList([]string{"a"}, 2, fmt.Sprint("of ", i))
	}
	for _, one := range choices[0] {
		for _, two := range choices[1] {
			for _, three := range choices[2] {
				for _, four := range choices[3] {
					wantMergeOfTheModel(t, [][]api.Entry{one, two, three, four}, 1)
				}
			}
		}
	}
}

func TestMergeOfManyLists(t *testing.T) {
	m := mixer(8)
	for i := range 1500 {
		lists := make([][]api.Entry, m.below(12))
		for k := range lists {
			lists[k] = m.list(1 + i%30)
		}
		wantMergeOfTheModel(t, lists, m.below(5), m.below(60), m.below(200))
	}
}
