package manifest

import (
	"cmp"
	"maps"
	"slices"

	"convoy/api"
	"convoy/frame"
	"convoy/numbered"
)

const (
	maxNext  = numbered.Max + 1 // of the next file's number: then all are used up
	maxLevel = 1                // of a table
)

// state: a version whose tables are found by their numbers, so that an edit costs as much as it names, however many tables there are.
type state struct {
	tables         map[int]api.Table
	next, log, seq int
}

// firstState: that of the first version.
func firstState() *state {
	return &state{tables: make(map[int]api.Table), next: 1, log: 1}
}

// stateOf: that of a version; false if it is none. A version is what comes of the first one by an edit that adds all of it, in order.
func stateOf(v api.Version) (*state, bool) {
	s := firstState()
	all := api.Edit{Add: v.Tables, Next: v.Next, Log: v.Log, Seq: v.Seq}
	// In an edit 0 stands for no change, but no version has such a Next or Log.
	if v.Next == 0 || v.Log == 0 || !slices.IsSortedFunc(v.Tables, compareTables) || !s.fits(all) {
		return nil, false
	}
	s.apply(all)
	return s, true
}

func compareTables(a, b api.Table) int {
	return cmp.Or(cmp.Compare(a.Level, b.Level), cmp.Compare(a.Number, b.Number))
}

// version: the version, in new memory.
func (s *state) version() api.Version {
	tables := slices.SortedFunc(maps.Values(s.tables), compareTables)
	return api.Version{Tables: tables, Next: s.next, Log: s.log, Seq: s.seq}
}

// fits: does the edit fit the version?
func (s *state) fits(e api.Edit) bool {
	return follows(e.Next, s.next, maxNext) && follows(e.Log, s.log, numbered.Max) && follows(e.Seq, s.seq, api.MaxSeq) &&
		s.fitsDrop(e) && s.fitsAdd(e)
}

// follows: may this number of an edit be made of the version's old one?
func follows(n, old, most int) bool {
	return n == 0 || old <= n && n <= most
}

func (s *state) fitsDrop(e api.Edit) bool {
	return isDistinct(e.Drop) && !slices.ContainsFunc(e.Drop, func(n int) bool { return !s.isLive(n) })
}

// fitsAdd: are the tables that come tables of the edit's result? Those that stay are: the next file's number never falls.
func (s *state) fitsAdd(e api.Edit) bool {
	next := cmp.Or(e.Next, s.next)
	drop := slices.Sorted(slices.Values(e.Drop))
	numbers := make([]int, len(e.Add))
	for i, t := range e.Add {
		// A number that goes may come again, with another table.
		_, goes := slices.BinarySearch(drop, t.Number)
		if !isTable(t, next) || s.isLive(t.Number) && !goes {
			return false
		}
		numbers[i] = t.Number
	}
	return isDistinct(numbers)
}

// isTable: is it a table of a version whose next file's number is this one?
func isTable(t api.Table, next int) bool {
	return 1 <= t.Number && t.Number < next &&
		0 <= t.Level && t.Level <= maxLevel &&
		t.First <= t.Last && max(len(t.First), len(t.Last)) <= api.MaxKey
}

func isDistinct(numbers []int) bool {
	sorted := slices.Sorted(slices.Values(numbers))
	return len(slices.Compact(sorted)) == len(numbers)
}

func (s *state) isLive(number int) bool {
	_, live := s.tables[number]
	return live
}

// apply: the edit, which fits.
func (s *state) apply(e api.Edit) {
	for _, n := range e.Drop {
		delete(s.tables, n)
	}
	for _, t := range e.Add {
		s.tables[t.Number] = t
	}
	s.next, s.log, s.seq = cmp.Or(e.Next, s.next), cmp.Or(e.Log, s.log), cmp.Or(e.Seq, s.seq)
}

// read applies the edits that the bytes of a log begin with, as far as they fit.
func (s *state) read(b []byte) {
	payloads, _ := frame.Scan(b)
reading:
	for _, payload := range payloads {
		switch e, code := Decode(payload); {
		case code != api.OK, !s.fits(e):
			break reading
		default:
			s.apply(e)
		}
	}
}
