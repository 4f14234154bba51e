package sstable

import (
	"convoy/api"
	"convoy/frame"
)

// taker takes what was encoded from the front of its bytes; if they don't begin with it, it takes none of them, and yields the zero value.
type taker struct {
	rest []byte
}

func (t *taker) number() int {
	n, size := frame.TakeUint(t.rest)
	t.rest = t.rest[size:]
	return int(n)
}

func (t *taker) text() string {
	s, size := frame.TakeText(t.rest)
	t.rest = t.rest[size:]
	return s
}

func (t *taker) payload() []byte {
	payload, size, _ := frame.Take(t.rest)
	t.rest = t.rest[size:]
	return payload
}

func (t *taker) del() bool {
	if len(t.rest) == 0 {
		return false
	}
	del := t.rest[0] == 1
	t.rest = t.rest[1:]
	return del
}

func (t *taker) offset() int {
	if len(t.rest) < offsetBytes {
		return 0
	}
	offset := 0
	for i := range offsetBytes {
		offset |= int(t.rest[i]) << (8 * i)
	}
	t.rest = t.rest[offsetBytes:]
	return offset
}

func (t *taker) entry() api.Entry {
	return api.Entry{Key: t.text(), Seq: t.number(), Del: t.del(), Value: t.text()}
}

// blocksOf: the bytes of a table ahead of its filter.
func blocksOf(b []byte) []byte {
	footer := taker{rest: b[max(len(b)-footerBytes, 0):]}
	filterAt := footer.offset()
	return b[:min(filterAt, len(b))]
}

// entriesOf: the entries of a table's blocks; of other bytes, what can be read as such. The loops are bounded, so that no bytes take longer than a table's.
func entriesOf(b []byte) []api.Entry {
	var entries []api.Entry
	rest := taker{rest: blocksOf(b)}
blocks:
	for range maxBlocks {
		block := taker{rest: rest.payload()}
		for range api.BlockSize {
			// Only the last block has fewer entries.
			if len(block.rest) == 0 {
				break blocks
			}
			entries = append(entries, block.entry())
		}
	}
	return entries
}
