// Package taker takes what layer 1 encodes from the front of bytes, for all layers that read what they wrote.
package taker

import (
	"convoy/api"
	"convoy/frame"
)

// Taker: the bytes that are still to be taken. Where they don't begin with what is asked for, none of them is taken, and the answer is the zero value: the reader encodes all that it was given once more, and sees by the bytes whether they are the same.
type Taker struct {
	Rest []byte
}

// Number: a number up to 2^62, the greatest that a layer writes.
func (t *Taker) Number() int {
	n, size := frame.TakeUint(t.Rest)
	if n > api.MaxSeq {
		return 0
	}
	t.Rest = t.Rest[size:]
	return int(n)
}

// Text: a text.
func (t *Taker) Text() string {
	s, size := frame.TakeText(t.Rest)
	t.Rest = t.Rest[size:]
	return s
}

// Payload: that of a frame.
func (t *Taker) Payload() []byte {
	payload, size, _ := frame.Take(t.Rest)
	t.Rest = t.Rest[size:]
	return payload
}
