package merge_test

import (
	"fmt"
	"math"
	"runtime"
	"slices"
	"strings"
	"sync"
	"testing"
	"testing/synctest"

	"convoy/api"
	"convoy/merge"
)

func put(key string, seq int, value string) api.Entry {
	return api.Entry{Key: key, Seq: seq, Value: value}
}

func gone(key string, seq int) api.Entry {
	return api.Entry{Key: key, Seq: seq, Del: true}
}

// shown: anything as a text that is not too long, and has no bytes that can't be printed.
func shown(v any) string {
	return fmt.Sprintf("%.300q", fmt.Sprint(v))
}

// wantList: what a function answered is this list, and no error.
func wantList[T comparable](t *testing.T, what string, got []T, code api.Errno, want ...T) {
	t.Helper()
	if code != api.OK || !slices.Equal(got, want) {
		t.Errorf("%s: %s, %d, want %s", what, shown(got), code, shown(want))
	}
}

func wantMerge(t *testing.T, what string, lists [][]api.Entry, want ...api.Entry) {
	t.Helper()
	got, code := merge.Merge(lists)
	wantList(t, "P7.1: Merge, "+what, got, code, want...)
}

func wantFirst(t *testing.T, what string, lists [][]api.Entry, n int, want ...api.Entry) {
	t.Helper()
	got, code := merge.First(lists, n)
	wantList(t, fmt.Sprintf("P7.1: First %d, %s", n, what), got, code, want...)
}

func wantVisible(t *testing.T, list []api.Entry, seq int, want ...api.Pair) {
	t.Helper()
	got, code := merge.Visible(list, seq)
	wantList(t, fmt.Sprintf("P7.1: Visible(%s, %d)", shown(list), seq), got, code, want...)
}

func wantCompact(t *testing.T, list []api.Entry, floor int, bottom bool, want ...api.Entry) {
	t.Helper()
	got, code := merge.Compact(list, floor, bottom)
	wantList(t, fmt.Sprintf("P7.1: Compact(%s, %d, %t)", shown(list), floor, bottom), got, code, want...)
}

func TestExample(t *testing.T) {
	a3, a2, b5, c1 := put("a", 3, "z"), put("a", 2, "x"), put("b", 5, "y"), put("c", 1, "w")
	lists := [][]api.Entry{{a3, c1}, {a2, b5}}
	all := []api.Entry{a3, a2, b5, c1}
	wantMerge(t, "the example", lists, all...)
	wantFirst(t, "the example", lists, 2, a3, a2)
	wantVisible(t, all, 2, api.Pair{Key: "a", Value: "x"}, api.Pair{Key: "c", Value: "w"})
	for _, bottom := range []bool{false, true} {
		wantCompact(t, all, 9, bottom, a3, b5, c1)
		wantCompact(t, all, 2, bottom, all...)
	}
	deleted := []api.Entry{gone("a", 3), a2, b5, c1}
	wantCompact(t, deleted, 9, true, b5, c1)
	wantCompact(t, deleted, 9, false, gone("a", 3), b5, c1)
}

func TestNothingComesOfNothing(t *testing.T) {
	for _, lists := range [][][]api.Entry{nil, {}, {nil}, {{}, nil, {}}} {
		wantMerge(t, "no entries", lists)
		for _, n := range []int{math.MinInt, -1, 0, 1, math.MaxInt} {
			wantFirst(t, "no entries", lists, n)
		}
	}
	for _, list := range [][]api.Entry{nil, {}} {
		for _, seq := range []int{math.MinInt, 0, 1, math.MaxInt} {
			wantVisible(t, list, seq)
			wantCompact(t, list, seq, false)
			wantCompact(t, list, seq, true)
		}
	}
}

func TestFirstTakesAnyNumber(t *testing.T) {
	lists := [][]api.Entry{{put("b", 2, ""), put("d", 4, "")}, nil, {put("a", 1, ""), put("b", 2, "later"), put("c", 3, "")}}
	all := []api.Entry{put("a", 1, ""), put("b", 2, ""), put("c", 3, ""), put("d", 4, "")}
	for _, n := range []int{math.MinInt, -7, -1, 0, 1, 2, 3, 4, 5, 6, 100, math.MaxInt} {
		wantFirst(t, "four entries", lists, n, all[:max(0, min(n, 4))]...)
	}
}

// ordered: entries in their order, as the chapters tell it: byte by byte, a prefix before what continues it, the newest of a key first.
func ordered() []api.Entry {
	return []api.Entry{
		put("", 1<<62, "none"), gone("", 1),
		put("\x00", 7, ""), put("\x00\x00", 9, ""), put("A", 3, "upper"), put("Z", 3, ""),
		put("a", 1<<62, "last"), gone("a", 10), put("a", 9, "nine"), put("a", 1, "one"),
		put("a\x00", 4, ""), put("aa", 5, ""), put("ab", 1, ""), put("b10", 2, ""), put("b9", 2, ""),
		put(strings.Repeat("c", 63), 1, ""), put(strings.Repeat("c", 64), 1, strings.Repeat("v", 1024)),
		put("\x7f", 1, ""), put("\x80", 1, ""), put("\u00e9", 1, ""), put("\u20ac", 1, ""), put("\U0001f600", 1, ""), put("\xff", 1, ""), put("\xff\xff", 1, ""),
	}
}

// TestMergeKeepsTheOrder: the entries are dealt out to some lists in many ways.
func TestMergeKeepsTheOrder(t *testing.T) {
	sorted, m := ordered(), mixer(3)
	for i := range 300 {
		lists := make([][]api.Entry, 1+i%9)
		for _, e := range sorted {
			k := m.below(len(lists))
			lists[k] = append(lists[k], e)
		}
		wantMerge(t, "dealt out", lists, sorted...)
		n := m.below(len(sorted))
		wantFirst(t, "dealt out", lists, n, sorted[:n]...)
	}
	single := make([][]api.Entry, len(sorted))
	for i, e := range sorted {
		single[len(sorted)-1-i] = []api.Entry{e}
	}
	wantMerge(t, "a list each", single, sorted...)
}

// TestTheFirstListThatHasAnEntryCounts: each of several lists has it, with a value of its own.
func TestTheFirstListThatHasAnEntryCounts(t *testing.T) {
	m := mixer(4)
	for many := 1; many <= 20; many++ {
		lists := make([][]api.Entry, many)
		for i := range lists {
			lists[i] = []api.Entry{put("k", 5, fmt.Sprint(i)), put("k", 4, fmt.Sprint(i))}
		}
		wantMerge(t, "the same entries", lists, put("k", 5, "0"), put("k", 4, "0"))
		// One at random is the first; those ahead of it have something else, or nothing.
		start := m.below(many)
		for i := range start {
			lists[i] = []api.Entry{put("j", 9, ""), put("k", 6, fmt.Sprint(i)), put("l", 5, "")}[i%4%3:]
		}
		got, _ := merge.Merge(lists)
		if i := slices.IndexFunc(got, func(e api.Entry) bool { return e.Key == "k" && e.Seq == 5 }); i < 0 || got[i].Value != fmt.Sprint(start) {
			t.Errorf("P7.1: Merge(%s): %s, want k 5 of list %d", shown(lists), shown(got), start)
		}
	}
	wantMerge(t, "deleted by the first", [][]api.Entry{{gone("a", 1)}, {put("a", 1, "x")}}, gone("a", 1))
	wantMerge(t, "deleted by the second", [][]api.Entry{{put("a", 1, "x")}, {gone("a", 1)}}, put("a", 1, "x"))
	list := ordered()
	wantMerge(t, "a list three times", [][]api.Entry{list, list, list}, list...)
}

// disordered: lists that are not in order, by what is wrong with them.
func disordered() map[string][]api.Entry {
	a1, a2, b1 := put("a", 1, "x"), put("a", 2, "x"), put("b", 1, "x")
	return map[string][]api.Entry{
		"an entry twice":                           {a1, a1},
		"an entry twice, with another value":       {a1, put("a", 1, "y")},
		"an entry and its deletion":                {a1, gone("a", 1)},
		"an older one ahead of a newer one":        {a1, a2},
		"b ahead of a":                             {b1, a1},
		"b ahead of a newer a":                     {b1, a2},
		"a prefix behind what continues it":        {put("ab", 1, ""), a1},
		"no key behind another key":                {a1, put("", 1, "")},
		"a byte above 127 ahead of one below":      {put("\x80", 1, ""), put("\x7f", 1, "")},
		"out of order at the end alone":            append(ordered(), put("\xff\xff", 2, "")),
		"an entry twice at the end":                append(ordered(), put("\xff\xff", 1, "")),
		"out of order at the start alone":          append([]api.Entry{put("", 1, "")}, ordered()...),
		"the two least numbers in the wrong order": {put("a", math.MinInt, ""), put("a", math.MinInt+1, "")},
		"the greatest number behind the least":     {put("a", math.MinInt, ""), put("a", math.MaxInt, "")},
	}
}

func TestListsOutOfOrder(t *testing.T) {
	good := ordered()
	wantNone := func(what string, entries []api.Entry, pairs []api.Pair, code api.Errno) {
		t.Helper()
		if code != api.ErrOrder || len(entries) != 0 || len(pairs) != 0 {
			t.Errorf("P7.1: %s: %s, %s, %d, want none, ErrOrder", what, shown(entries), shown(pairs), code)
		}
	}
	for what, bad := range disordered() {
		for i, lists := range [][][]api.Entry{{bad}, {bad, good}, {good, bad}, {good, nil, bad, good}, {nil, bad, bad}} {
			entries, code := merge.Merge(lists)
			wantNone(fmt.Sprintf("Merge, lists %d, %s", i, what), entries, nil, code)
			for _, n := range []int{math.MinInt, -1, 0, 1, 2, math.MaxInt} {
				entries, code = merge.First(lists, n)
				wantNone(fmt.Sprintf("First %d, lists %d, %s", n, i, what), entries, nil, code)
			}
		}
		for _, seq := range []int{math.MinInt, -1, 0, 1, 2, math.MaxInt} {
			pairs, code := merge.Visible(bad, seq)
			wantNone(fmt.Sprintf("Visible at %d, %s", seq, what), nil, pairs, code)
			for _, bottom := range []bool{false, true} {
				entries, code := merge.Compact(bad, seq, bottom)
				wantNone(fmt.Sprintf("Compact(%d, %t), %s", seq, bottom, what), entries, nil, code)
			}
		}
	}
}

// TestVisibleAndCompactAtEachNumber: of one key with values and deletions, the number is below, at, between and above those of the entries.
func TestVisibleAndCompactAtEachNumber(t *testing.T) {
	k9, k7, k4, k2 := put("k", 9, "nine"), gone("k", 7), put("k", 4, "four"), gone("k", 2)
	list := []api.Entry{k9, k7, k4, k2}
	for _, c := range []struct {
		at      int
		visible []api.Pair
		kept    []api.Entry
		bottom  []api.Entry
	}{
		{math.MinInt, nil, list, list}, {0, nil, list, list}, {1, nil, list, list},
		{2, nil, list, list[:3]}, {3, nil, list, list[:3]},
		{4, []api.Pair{{Key: "k", Value: "four"}}, list[:3], list[:3]}, {6, []api.Pair{{Key: "k", Value: "four"}}, list[:3], list[:3]},
		{7, nil, list[:2], list[:1]}, {8, nil, list[:2], list[:1]},
		{9, []api.Pair{{Key: "k", Value: "nine"}}, list[:1], list[:1]}, {math.MaxInt, []api.Pair{{Key: "k", Value: "nine"}}, list[:1], list[:1]},
	} {
		wantVisible(t, list, c.at, c.visible...)
		wantCompact(t, list, c.at, false, c.kept...)
		wantCompact(t, list, c.at, true, c.bottom...)
	}
}

// TestAnEmptyValueIsAValue: only Del tells of a deletion.
func TestAnEmptyValueIsAValue(t *testing.T) {
	list := []api.Entry{put("", 2, ""), put("a", 2, ""), put("a", 1, "x")}
	wantVisible(t, list, 5, api.Pair{}, api.Pair{Key: "a"})
	wantCompact(t, list, 5, true, list[:2]...)
}

// TestWhatIsNoEntryHasItsOrderToo: P7.1 speaks of all lists, so that numbers and lengths that no entry has are no error.
func TestWhatIsNoEntryHasItsOrderToo(t *testing.T) {
	long := put(strings.Repeat("k", 70), 1, strings.Repeat("v", 2000))
	list := []api.Entry{put("a", math.MaxInt, "most"), put("a", 1<<62+1, ""), put("a", 0, "zero"), put("a", -3, ""), put("a", math.MinInt, "least"), long, {Key: "z", Seq: 5, Del: true, Value: "x"}}
	wantMerge(t, "no entries", [][]api.Entry{list[3:], list[:4]}, list...)
	wantVisible(t, list, 7, api.Pair{Key: "a", Value: "zero"}, api.Pair{Key: long.Key, Value: long.Value})
	wantVisible(t, list, math.MinInt, api.Pair{Key: "a", Value: "least"})
	wantVisible(t, list, math.MaxInt, api.Pair{Key: "a", Value: "most"}, api.Pair{Key: long.Key, Value: long.Value})
	wantCompact(t, list, 7, false, list[0], list[1], list[2], long, list[6])
	wantCompact(t, list, 7, true, list[0], list[1], list[2], long)
	wantCompact(t, list, math.MinInt, true, list...)
	zero, below := api.Entry{}, put("", -1, "")
	wantMerge(t, "zero values alone", [][]api.Entry{{zero}, {zero}}, zero)
	wantMerge(t, "zero values ahead of others", [][]api.Entry{{zero, long}, {below}, {zero}}, zero, below, long)
	wantVisible(t, []api.Entry{zero, below}, 0, api.Pair{})
}

// numbered: the numbers from start on, by so much apart, as keys of one entry each.
func numbered(start, apart, n int) []api.Entry {
	out := make([]api.Entry, n)
	for i := range out {
		out[i] = put(fmt.Sprintf("%08d", start+apart*i), 1, "")
	}
	return out
}

// TestManyLists: P7 too: a call ends with many lists as with long ones.
func TestManyLists(t *testing.T) {
	for _, c := range []struct{ lists, long int }{{1, 100000}, {2, 50000}, {100, 1000}, {1000, 100}, {20000, 5}, {100000, 1}} {
		lists := make([][]api.Entry, c.lists)
		for i := range lists {
			lists[c.lists-1-i] = numbered(i, c.lists, c.long)
		}
		all := numbered(0, 1, c.lists*c.long)
		what := fmt.Sprintf("%d lists of %d entries", c.lists, c.long)
		wantMerge(t, what, lists, all...)
		for _, n := range []int{0, 1, 1000, len(all) - 1} {
			wantFirst(t, what, lists, n, all[:n]...)
		}
	}
}

// TestNoSenderIsLeft: a bubble that has a goroutine left which waits for ever is told as a deadlock.
func TestNoSenderIsLeft(t *testing.T) {
	lists := [][]api.Entry{numbered(0, 3, 500), nil, numbered(1, 3, 500), {put("x", 1, "")}, numbered(0, 3, 500)}
	bad := append(slices.Clone(lists), []api.Entry{put("a", 1, ""), put("a", 1, "")})
	for _, n := range []int{math.MinInt, 0, 1, 2, 999, 1000, 1001, math.MaxInt} {
		synctest.Test(t, func(t *testing.T) {
			merge.First(lists, n)
			merge.First(bad, n)
		})
	}
	synctest.Test(t, func(t *testing.T) {
		merge.Merge(lists)
		merge.Merge(bad)
	})
}

// TestTheSendersEndAheadOfTheAnswer: with one processor a goroutine that has told its end is gone before anyone hears of it, unless it is interrupted just there: so once in some calls nothing may be left.
func TestTheSendersEndAheadOfTheAnswer(t *testing.T) {
	defer runtime.GOMAXPROCS(runtime.GOMAXPROCS(1))
	lists := [][]api.Entry{numbered(0, 2, 100), nil, numbered(1, 2, 100), numbered(0, 2, 100)}
	for _, n := range []int{0, 1, 50, 199, 200, math.MaxInt} {
		least := math.MaxInt
		for range 20 {
			for range 10 {
				runtime.Gosched() // so that what an earlier call left ends, and is not counted ahead of this one
			}
			before := runtime.NumGoroutine()
			merge.First(lists, n)
			least = min(least, runtime.NumGoroutine()-before)
		}
		if least > 0 {
			t.Errorf("P8: First %d: %d goroutines are left behind each call", n, least)
		}
	}
}

// TestCallsAtOnce: calls share nothing, so that many may run over the same lists; each has the same result (P8, R8).
func TestCallsAtOnce(t *testing.T) {
	lists := [][]api.Entry{numbered(0, 2, 300), numbered(1, 2, 300), numbered(0, 5, 100)}
	all := numbered(0, 1, 600)
	var calls sync.WaitGroup
	for i := range 40 {
		calls.Go(func() {
			wantMerge(t, "at once", lists, all...)
			wantFirst(t, "at once", lists, 15*i, all[:15*i]...)
			wantCompact(t, all, 9, true, all...)
		})
	}
	calls.Wait()
}
