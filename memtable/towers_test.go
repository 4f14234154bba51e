package memtable

import (
	"strconv"
	"testing"

	"convoy/api"
)

// TestTowers: no result shows the towers, so only this test tells whether they are there: each level has, in order, the nodes whose towers reach it.
func TestTowers(t *testing.T) {
	m, heights := New(), make(map[api.Entry]int)
	for i := range 600 {
		e := api.Entry{Key: strconv.Itoa(i * 7919 % 600), Seq: 1 + i%5}
		height := i*31%17 - 2
		if code := m.Put(e, height); code != api.OK {
			t.Fatalf("Put: %d", code)
		}
		heights[e] = min(max(height, 1), 12)
	}
	for level := range maxHeight {
		want := 0
		for _, h := range heights {
			if h > level {
				want++
			}
		}
		got := 0
		for n := m.head.next[level]; n != nil; n = n.next[level] {
			got++
			if heights[n.entry] <= level {
				t.Errorf("level %d has a tower of %d", level, heights[n.entry])
			}
			if next := n.next[level]; next != nil && !n.isBefore(next.entry.Key, next.entry.Seq) {
				t.Errorf("level %d: %v comes before %v", level, n.entry, next.entry)
			}
		}
		if got != want {
			t.Errorf("level %d has %d nodes, want %d", level, got, want)
		}
	}
}
