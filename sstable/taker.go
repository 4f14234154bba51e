package sstable

import (
	"convoy/api"
	"convoy/taker"
)

// tableTaker takes also what only tables have.
type tableTaker struct {
	taker.Taker
}

func takerOf(b []byte) tableTaker {
	return tableTaker{taker.Taker{Rest: b}}
}

func (t *tableTaker) del() bool {
	if len(t.Rest) == 0 {
		return false
	}
	del := t.Rest[0] == 1
	t.Rest = t.Rest[1:]
	return del
}

func (t *tableTaker) offset() int {
	if len(t.Rest) < offsetBytes {
		return 0
	}
	offset := 0
	for i := range offsetBytes {
		offset |= int(t.Rest[i]) << (8 * i)
	}
	t.Rest = t.Rest[offsetBytes:]
	return offset
}

func (t *tableTaker) entry() api.Entry {
	return api.Entry{Key: t.Text(), Seq: t.Number(), Del: t.del(), Value: t.Text()}
}

// blocksOf: the bytes of a table ahead of its filter.
func blocksOf(b []byte) []byte {
	footer := takerOf(b[max(len(b)-footerBytes, 0):])
	filterAt := footer.offset()
	return b[:min(filterAt, len(b))]
}

// entriesOf: the entries of a table's blocks; of other bytes, what can be read as such. The loops are bounded, so that no bytes take longer than a table's.
func entriesOf(b []byte) []api.Entry {
	var entries []api.Entry
	rest := takerOf(blocksOf(b))
blocks:
	for range maxBlocks {
		block := takerOf(rest.Payload())
		for range api.BlockSize {
			// Only the last block has fewer entries.
			if len(block.Rest) == 0 {
				break blocks
			}
			entries = append(entries, block.entry())
		}
	}
	return entries
}
