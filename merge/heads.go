package merge

import (
	"cmp"
	"container/heap"

	"convoy/api"
	"convoy/entry"
)

// head: the first entry of a channel.
type head struct {
	entry api.Entry
	place int // of the channel among the channels
	rest  <-chan api.Entry
}

// heads: of the channels that have not ended, as a heap: the least entry is in front, of several alike that of the first channel.
type heads []*head

func headsOf(channels []<-chan api.Entry) heads {
	var hs heads
	for i, channel := range channels {
		if e, ok := <-channel; ok {
			heap.Push(&hs, &head{entry: e, place: i, rest: channel})
		}
	}
	return hs
}

// take: the least entry, in whose stead the next one of its channel comes.
func (hs *heads) take() api.Entry {
	first := (*hs)[0]
	least := first.entry
	next, ok := <-first.rest
	if !ok {
		heap.Pop(hs)
		return least
	}
	first.entry = next
	heap.Fix(hs, 0)
	return least
}

// Len, Less, Swap, Push and Pop are for the library's heap alone.

// Len: how many.
func (hs heads) Len() int {
	return len(hs)
}

// Less: does head i come before head j?
func (hs heads) Less(i, j int) bool {
	return cmp.Or(entry.Compare(hs[i].entry, hs[j].entry), cmp.Compare(hs[i].place, hs[j].place)) < 0
}

// Swap: heads i and j.
func (hs heads) Swap(i, j int) {
	hs[i], hs[j] = hs[j], hs[i]
}

// Push: a head more, at the end.
func (hs *heads) Push(h any) {
	*hs = append(*hs, h.(*head))
}

// Pop: the last head goes.
func (hs *heads) Pop() any {
	last := len(*hs) - 1
	h := (*hs)[last]
	*hs = (*hs)[:last]
	return h
}
