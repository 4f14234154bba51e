package merge

import (
	"sync"

	"convoy/api"
	"convoy/entry"
)

// streamed: the first n entries of lists in order, each of which is sent over a channel of its own.
func streamed(lists [][]api.Entry, n int) []api.Entry {
	var senders sync.WaitGroup
	enough := make(chan struct{})
	// What is deferred last comes first: the senders are told to end, then waited for.
	defer senders.Wait()
	defer close(enough)
	channels := make([]<-chan api.Entry, len(lists))
	for i, list := range lists {
		channel := make(chan api.Entry)
		channels[i] = channel
		senders.Add(1)
		go func() {
			defer senders.Done()
			send(list, channel, enough)
		}()
	}
	return received(channels, n)
}

// send: the list's entries, until no more are needed.
func send(list []api.Entry, channel chan<- api.Entry, enough <-chan struct{}) {
	defer close(channel)
sending:
	for _, e := range list {
		select {
		case channel <- e:
			continue sending
		case <-enough:
			break sending
		}
	}
}

// received: the first n entries of the channels, each key and number once.
func received(channels []<-chan api.Entry, n int) []api.Entry {
	var out []api.Entry
	waiting := headsOf(channels)
merging:
	for len(waiting) > 0 {
		least := waiting.take()
		switch {
		case len(out) >= n:
			break merging
		case len(out) > 0 && entry.Compare(out[len(out)-1], least) == 0:
			// An earlier list had it too, and came first.
			continue merging
		}
		out = append(out, least)
	}
	return out
}
