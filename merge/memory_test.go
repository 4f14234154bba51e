package merge_test

import (
	"fmt"
	"slices"
	"testing"

	"convoy/api"
	"convoy/merge"
)

// roomy: a list with spare capacity behind it, and all of both.
func roomy(list []api.Entry) ([]api.Entry, []api.Entry) {
	room := slices.Concat(list, slices.Repeat([]api.Entry{put("spare", 1, "")}, 20))
	return room[:len(list)], room
}

// whole: a list with its spare capacity.
func whole[T any](list []T) []T {
	return list[:cap(list)]
}

// wantNewMemory calls a function twice on the same arguments: the lists stay as they are, whatever is done to the results, and the results whatever is done to the lists.
func wantNewMemory[T comparable](t *testing.T, what string, lists [][]api.Entry, call func(lists [][]api.Entry) []T) {
	t.Helper()
	args, rooms := make([][]api.Entry, len(lists)), make([][]api.Entry, len(lists))
	for i, list := range lists {
		args[i], rooms[i] = roomy(list)
	}
	spare := append(slices.Clone(args), []api.Entry{put("spare", 1, "")})
	outer := spare[:len(args)]
	wantKept := func(when string) {
		t.Helper()
		for i, list := range lists {
			if len(outer[i]) != len(list) || len(list) > 0 && &outer[i][0] != &rooms[i][0] || !slices.Equal(rooms[i][:len(list)], list) {
				t.Errorf("P7.3: %s changed list %d %s", what, i, when)
			}
			if slices.ContainsFunc(rooms[i][len(list):], func(e api.Entry) bool { return e != put("spare", 1, "") }) {
				t.Errorf("P7.3: %s changed what lies behind list %d %s", what, i, when)
			}
		}
		if len(spare[len(args)]) != 1 {
			t.Errorf("P7.3: %s changed what lies behind the lists %s", what, when)
		}
	}
	one := call(outer)
	wantKept("in the call")
	want := slices.Clone(one)
	other := call(outer)
	clear(whole(one))
	wantKept("by its result")
	wantList(t, "P7.3: "+what+", a second result behind the first was cleared", other, api.OK, want...)
	for _, room := range rooms {
		clear(room)
	}
	clear(spare)
	wantList(t, "P7.3: "+what+", a result behind the lists were cleared", other, api.OK, want...)
}

func TestArgumentsStayAndResultsAreNewMemory(t *testing.T) {
	m := mixer(9)
	for range 100 {
		list := m.list(20)
		lists := [][]api.Entry{list, m.list(20), nil, m.list(20)}
		for _, lists := range [][][]api.Entry{lists, lists[:1], {list, nil}, {nil, list}} {
			wantNewMemory(t, "Merge", lists, func(lists [][]api.Entry) []api.Entry { return merged(t, lists...) })
			for _, n := range []int{0, 1, 5, 100} {
				wantNewMemory(t, fmt.Sprint("First ", n), lists, func(lists [][]api.Entry) []api.Entry {
					got, _ := merge.First(lists, n)
					return got
				})
			}
		}
		for at := 0; at <= 9; at += 3 {
			wantNewMemory(t, "Visible", [][]api.Entry{list}, func(lists [][]api.Entry) []api.Pair { return visible(t, lists[0], at) })
			for _, bottom := range []bool{false, true} {
				wantNewMemory(t, "Compact", [][]api.Entry{list}, func(lists [][]api.Entry) []api.Entry { return compacted(t, lists[0], at, bottom) })
			}
		}
	}
}

// TestListsOutOfOrderStay: an error changes nothing either.
func TestListsOutOfOrderStay(t *testing.T) {
	for what, bad := range disordered() {
		before := slices.Clone(bad)
		lists := [][]api.Entry{ordered(), bad}
		merge.Merge(lists)
		merge.First(lists, 3)
		merge.Visible(bad, 3)
		merge.Compact(bad, 3, true)
		if !slices.Equal(bad, before) || !slices.Equal(lists[0], ordered()) {
			t.Errorf("P7.3: a list was changed: %s", what)
		}
	}
}
