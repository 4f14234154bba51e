// Package entry tells what an entry is, and in which order entries stand, for all layers that have them: see shared/doc/04-memtable.md.
package entry

import (
	"cmp"
	"strings"

	"convoy/api"
)

// Check: why it is no entry; OK if it is one.
func Check(e api.Entry) api.Errno {
	if len(e.Key) > api.MaxKey || len(e.Value) > api.MaxValue {
		return api.ErrLong
	}
	if e.Seq < 1 || e.Seq > api.MaxSeq || e.Del && e.Value != "" {
		return api.ErrRange
	}
	return api.OK
}

// Compare: by keys, those of one key by numbers, the newest first; negative if a comes before b, 0 if they have the same key and number.
func Compare(a, b api.Entry) int {
	return cmp.Or(strings.Compare(a.Key, b.Key), cmp.Compare(b.Seq, a.Seq))
}
