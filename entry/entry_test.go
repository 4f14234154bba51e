package entry_test

import (
	"math"
	"strings"
	"testing"

	"convoy/api"
	"convoy/entry"
)

func TestCheck(t *testing.T) {
	longKey, longValue := strings.Repeat("k", 65), strings.Repeat("v", 1025)
	for _, c := range []struct {
		what string
		e    api.Entry
		code api.Errno
	}{
		{"an ordinary entry", api.Entry{Key: "a", Seq: 1, Value: "x"}, api.OK},
		{"the longest key and value, the greatest number", api.Entry{Key: longKey[1:], Seq: 1 << 62, Value: longValue[1:]}, api.OK},
		{"a deletion", api.Entry{Key: "a", Seq: 1, Del: true}, api.OK},
		{"neither key nor value", api.Entry{Seq: 1}, api.OK},
		{"too long a key", api.Entry{Key: longKey, Seq: 1}, api.ErrLong},
		{"too long a value", api.Entry{Key: "a", Seq: 1, Value: longValue}, api.ErrLong},
		{"too long a key before a number of 0", api.Entry{Key: longKey}, api.ErrLong},
		{"a deletion with too long a value", api.Entry{Key: "a", Seq: 1, Del: true, Value: longValue}, api.ErrLong},
		{"a deletion with a value", api.Entry{Key: "a", Seq: 1, Del: true, Value: "x"}, api.ErrRange},
		{"a number of 0", api.Entry{Key: "a"}, api.ErrRange},
		{"a negative number", api.Entry{Key: "a", Seq: math.MinInt}, api.ErrRange},
		{"a number above the greatest", api.Entry{Key: "a", Seq: 1<<62 + 1}, api.ErrRange},
	} {
		if got := entry.Check(c.e); got != c.code {
			t.Errorf("P4.1: Check of %s: %d, want %d", c.what, got, c.code)
		}
	}
}

// TestCompare: each entry of the list comes before all that follow it, whatever their values are.
func TestCompare(t *testing.T) {
	ordered := []api.Entry{
		{Key: "", Seq: 1 << 62}, {Key: "", Seq: 1}, {Key: "\x00", Seq: 5}, {Key: "Z", Seq: 1},
		{Key: "a", Seq: 3, Value: "x"}, {Key: "a", Seq: 2, Del: true}, {Key: "a", Seq: 1, Value: "z"},
		{Key: "a\x00", Seq: 9}, {Key: "aa", Seq: 9}, {Key: "b", Seq: 1}, {Key: "ü", Seq: 7}, {Key: "\xff", Seq: math.MaxInt}, {Key: "\xff", Seq: math.MinInt},
	}
	for i, a := range ordered {
		for j, b := range ordered {
			b.Value += "y"
			if got := entry.Compare(a, b); got < 0 != (i < j) || got > 0 != (i > j) {
				t.Errorf("P4.1: Compare(%v, %v): %d", a, b, got)
			}
		}
	}
}
