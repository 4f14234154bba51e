package manifest_test

import (
	"encoding/binary"
	"hash/crc32"
	"math"
	"slices"
	"strings"
	"testing"

	"convoy/api"
	"convoy/manifest"
)

// number: as chapter 1 encodes it.
func number(n int) string {
	return string(binary.AppendUvarint(nil, uint64(n)))
}

// payloadOf: an edit's payload as the chapter tells it.
func payloadOf(e api.Edit) string {
	var b []byte
	number := func(n int) { b = binary.AppendUvarint(b, uint64(n)) }
	number(len(e.Add))
	for _, t := range e.Add {
		number(t.Number)
		number(t.Level)
		number(len(t.First))
		b = append(b, t.First...)
		number(len(t.Last))
		b = append(b, t.Last...)
	}
	number(len(e.Drop))
	for _, n := range e.Drop {
		number(n)
	}
	number(e.Next)
	number(e.Log)
	number(e.Seq)
	return string(b)
}

// framed: a frame as chapter 1 writes it.
func framed(payload string) string {
	b := binary.LittleEndian.AppendUint32([]byte(number(len(payload))), crc32.ChecksumIEEE([]byte(payload)))
	return string(b) + payload
}

// logOf: the bytes of a log of these edits.
func logOf(edits ...api.Edit) string {
	s := ""
	for _, e := range edits {
		s += framed(payloadOf(e))
	}
	return s
}

// snapshotOf: the bytes of a snapshot as the chapter tells it.
func snapshotOf(v api.Version) string {
	s := logOf(api.Edit{Next: v.Next, Log: v.Log, Seq: v.Seq})
	for _, t := range v.Tables {
		s += logOf(add(t))
	}
	return s
}

func table(number, level int, first, last string) api.Table {
	return api.Table{Number: number, Level: level, First: first, Last: last}
}

func add(tables ...api.Table) api.Edit {
	return api.Edit{Add: tables}
}

func drop(numbers ...int) api.Edit {
	return api.Edit{Drop: numbers}
}

func version(next, log, seq int, tables ...api.Table) api.Version {
	return api.Version{Tables: tables, Next: next, Log: log, Seq: seq}
}

func sameVersion(a, b api.Version) bool {
	return slices.Equal(a.Tables, b.Tables) && a.Next == b.Next && a.Log == b.Log && a.Seq == b.Seq
}

func sameEdit(a, b api.Edit) bool {
	return slices.Equal(a.Add, b.Add) && slices.Equal(a.Drop, b.Drop) && a.Next == b.Next && a.Log == b.Log && a.Seq == b.Seq
}

// wantFit: the edit's result; with no table and no number at all, that it does not fit.
func wantFit(t *testing.T, v api.Version, e api.Edit, result api.Version) {
	t.Helper()
	code := api.OK
	if result.Next == 0 {
		code = api.ErrManifest
	}
	if got, c := manifest.Fit(v, e); c != code || !sameVersion(got, result) {
		t.Errorf("P8.1: Fit(%v, %v): %v, %d, want %v, %d", v, e, got, c, result, code)
	}
}

// long: a key of this many bytes that begins so.
func long(first string, size int) string {
	return first + strings.Repeat("k", size-len(first))
}

var (
	a1 = table(1, 0, "a", "c")
	b2 = table(2, 1, "a", "c")
	c3 = table(3, 0, "", "")
	d4 = table(4, 1, "d", "d")
)

func TestFit(t *testing.T) {
	first, v := version(1, 1, 0), version(9, 4, 7, a1, c3, b2, d4)
	for _, c := range []struct {
		v      api.Version
		e      api.Edit
		result api.Version
	}{
		{first, api.Edit{}, first},
		{v, api.Edit{}, v},
		{first, api.Edit{Next: 1, Log: 1}, first},
		{first, api.Edit{Next: 2, Log: 3, Seq: 4}, version(2, 3, 4)},
		{first, api.Edit{Next: 1000000, Log: 999999, Seq: 1 << 62}, version(1000000, 999999, 1<<62)},
		{v, api.Edit{Next: 9, Log: 4, Seq: 7}, v},
		{v, api.Edit{Next: 10}, version(10, 4, 7, a1, c3, b2, d4)},
		{v, api.Edit{Log: 5}, version(9, 5, 7, a1, c3, b2, d4)},
		{v, api.Edit{Seq: 8}, version(9, 4, 8, a1, c3, b2, d4)},
		{first, api.Edit{Add: []api.Table{a1}, Next: 2}, version(2, 1, 0, a1)},
		{first, api.Edit{Add: []api.Table{d4, b2, c3, a1}, Next: 5}, version(5, 1, 0, a1, c3, b2, d4)},
		{v, add(table(8, 0, "a", "z"), table(5, 0, "b", "b")), version(9, 4, 7, a1, c3, table(5, 0, "b", "b"), table(8, 0, "a", "z"), b2, d4)},
		{v, add(table(8, 1, "a", "z")), version(9, 4, 7, a1, c3, b2, d4, table(8, 1, "a", "z"))},
		{v, drop(1), version(9, 4, 7, c3, b2, d4)},
		{v, drop(4, 1), version(9, 4, 7, c3, b2)},
		{v, drop(2, 4, 1, 3), version(9, 4, 7)},
		{v, api.Edit{Drop: []int{3}, Add: []api.Table{table(5, 1, "x", "y")}}, version(9, 4, 7, a1, b2, d4, table(5, 1, "x", "y"))},
		// A number that goes may come again.
		{v, api.Edit{Drop: []int{1}, Add: []api.Table{table(1, 1, "x", "y")}}, version(9, 4, 7, c3, table(1, 1, "x", "y"), b2, d4)},
		{v, api.Edit{Drop: []int{4, 3, 2, 1}, Add: []api.Table{a1, b2, c3, d4}}, v},
		// Keys: any bytes, up to 64 of them.
		{v, add(table(5, 1, "\x00\xff", "\xff")), version(9, 4, 7, a1, c3, b2, d4, table(5, 1, "\x00\xff", "\xff"))},
		{v, add(table(5, 1, long("a", 64), long("b", 64))), version(9, 4, 7, a1, c3, b2, d4, table(5, 1, long("a", 64), long("b", 64)))},
		{v, add(table(5, 1, "a", "aa")), version(9, 4, 7, a1, c3, b2, d4, table(5, 1, "a", "aa"))},
		{version(1000000, 999999, 1<<62), add(table(999999, 0, "", "a")), version(1000000, 999999, 1<<62, table(999999, 0, "", "a"))},
	} {
		wantFit(t, c.v, c.e, c.result)
	}
}

func TestFitOfAnEditThatDoesNotFit(t *testing.T) {
	none, v := api.Version{}, version(9, 4, 7, a1, c3, b2, d4)
	for _, e := range []api.Edit{
		drop(5), drop(0), drop(-1), drop(9), drop(1, 1), drop(1, 2, 1), drop(1, 2, 5), drop(math.MinInt), drop(math.MaxInt),
		{Next: 8}, {Next: 1}, {Next: -1}, {Next: 1000001}, {Next: math.MinInt}, {Next: math.MaxInt},
		{Log: 3}, {Log: -1}, {Log: 1000000}, {Log: math.MinInt}, {Log: math.MaxInt},
		{Seq: 6}, {Seq: -1}, {Seq: 1<<62 + 1}, {Seq: math.MinInt}, {Seq: math.MaxInt},
		add(a1), add(b2), add(table(3, 1, "x", "y")), add(table(4, 0, "x", "y")),
		add(table(5, 0, "a", "a"), table(5, 0, "a", "a")), add(table(5, 0, "a", "a"), table(6, 0, "a", "a"), table(5, 1, "a", "a")),
		add(table(9, 0, "a", "a")), add(table(10, 0, "a", "a")), add(table(0, 0, "a", "a")), add(table(-1, 0, "a", "a")), add(table(math.MinInt, 0, "a", "a")),
		{Add: []api.Table{table(10, 0, "a", "a")}, Next: 10}, {Add: []api.Table{table(1000000, 0, "a", "a")}, Next: 1000000}, {Add: []api.Table{table(1000000, 0, "a", "a")}, Next: 1000001},
		add(table(5, 2, "a", "a")), add(table(5, -1, "a", "a")), add(table(5, math.MaxInt, "a", "a")), add(table(5, math.MinInt, "a", "a")),
		add(table(5, 0, "b", "a")), add(table(5, 0, "a", "")), add(table(5, 0, "aa", "a")), add(table(5, 0, "\xff", "\x7f")),
		add(table(5, 0, long("a", 65), "b")), add(table(5, 0, "a", long("b", 65))), add(table(5, 0, long("a", 65), long("a", 65))),
		{Drop: []int{1}, Add: []api.Table{table(1, 1, "x", "y"), table(1, 0, "x", "y")}}, {Drop: []int{1, 1}, Add: []api.Table{a1}}, {Drop: []int{5}, Add: []api.Table{table(5, 0, "a", "b")}},
		{Drop: []int{1}, Add: []api.Table{table(5, 0, "b", "a")}}, {Drop: []int{1}, Seq: 6}, {Drop: []int{1}, Add: []api.Table{b2}},
	} {
		wantFit(t, v, e, none)
	}
	wantFit(t, version(1, 1, 0), add(a1), none)
	wantFit(t, version(1, 1, 0), api.Edit{Add: []api.Table{a1}, Next: 1}, none)
}

func TestFitOfWhatIsNoVersion(t *testing.T) {
	for _, v := range []api.Version{
		{}, version(0, 1, 0), version(1, 0, 0), version(-1, 1, 0), version(1, -1, 0), version(1, 1, -1), version(math.MinInt, 1, 0),
		version(1000001, 1, 0), version(1, 1000000, 0), version(1, 1, 1<<62+1), version(math.MaxInt, 1, 0), version(1, math.MaxInt, 0), version(1, 1, math.MaxInt),
		version(0, 1, 0, a1), version(1, 1, 0, a1), version(4, 1, 0, a1, d4), version(9, 0, 0, a1), version(1000001, 1, 0, table(1000000, 0, "a", "a")),
		version(9, 1, 0, c3, a1), version(9, 1, 0, b2, a1), version(9, 1, 0, a1, d4, b2), version(9, 1, 0, a1, d4, c3),
		version(9, 1, 0, a1, a1), version(9, 1, 0, a1, table(1, 1, "a", "c")), version(9, 1, 0, a1, c3, table(1, 1, "a", "c"), b2),
		version(9, 1, 0, table(0, 0, "a", "a")), version(9, 1, 0, table(-1, 0, "a", "a"), a1),
		version(9, 1, 0, table(1, 2, "a", "a")), version(9, 1, 0, table(1, -1, "a", "a")), version(9, 1, 0, table(1, 0, "b", "a")),
		version(9, 1, 0, table(1, 0, long("a", 65), "b")), version(9, 1, 0, table(1, 0, "a", long("b", 65))),
	} {
		for _, e := range []api.Edit{{}, {Next: 1000, Log: 1000, Seq: 1000}, drop(1), {Next: 1000000, Log: 999999, Seq: 1 << 62}} {
			wantFit(t, v, e, api.Version{})
		}
	}
}

func TestEncode(t *testing.T) {
	for _, c := range []struct {
		e    api.Edit
		want string
	}{
		{api.Edit{}, "\x00\x00\x00\x00\x00"},
		{api.Edit{Next: 1, Log: 2, Seq: 3}, "\x00\x00\x01\x02\x03"},
		{drop(5, 300, 5), "\x00\x03\x05\xac\x02\x05\x00\x00\x00"},
		{api.Edit{Add: []api.Table{a1}, Next: 2}, "\x01\x01\x00\x01a\x01c\x00\x02\x00\x00"},
		{api.Edit{Add: []api.Table{b2, a1}, Drop: []int{9}, Seq: 128}, "\x02\x02\x01\x01a\x01c\x01\x00\x01a\x01c\x01\x09\x00\x00\x80\x01"},
		{add(table(999999, 0, "", "\xff\x00")), "\x01\xbf\x84\x3d\x00\x00\x02\xff\x00\x00\x00\x00\x00"},
		{api.Edit{Seq: 1 << 62}, "\x00\x00\x00\x00\x80\x80\x80\x80\x80\x80\x80\x80\x40"},
		// What fits no version has a payload, too.
		{api.Edit{Add: []api.Table{table(0, 77, "b", "a")}, Next: math.MaxInt}, "\x01\x00\x4d\x01b\x01a\x00\xff\xff\xff\xff\xff\xff\xff\xff\x7f\x00\x00"},
		{add(table(1, 0, long("a", 65), "")), "\x01\x01\x00\x41" + long("a", 65) + "\x00\x00\x00\x00\x00"},
	} {
		got, code := manifest.Encode(c.e)
		if code != api.OK || string(got) != c.want || c.want != payloadOf(c.e) {
			t.Errorf("P8.1: Encode(%v): %q, %d, want %q", c.e, got, code, c.want)
		}
	}
}

func TestEncodeOfANegativeNumber(t *testing.T) {
	tooLong := table(1, 0, long("a", 5000), "")
	for _, n := range []int{-1, math.MinInt} {
		for _, e := range []api.Edit{
			{Next: n}, {Log: n}, {Seq: n}, drop(n), drop(1, n), drop(n, 1), add(table(n, 0, "", "")), add(table(0, n, "", "")), add(a1, table(1, n, "", "")), add(table(n, 1, "", ""), a1),
			{Next: n, Add: []api.Table{tooLong}}, {Drop: []int{n}, Add: []api.Table{tooLong}}, add(tooLong, table(n, 0, "", "")), add(tooLong, table(0, n, "", "")),
		} {
			if got, code := manifest.Encode(e); code != api.ErrManifest || len(got) != 0 {
				t.Errorf("P8.1: Encode(%v): %d bytes, %d", e, len(got), code)
			}
		}
	}
}

func TestEncodeOfALongEdit(t *testing.T) {
	for _, c := range []struct {
		e    api.Edit
		size int
	}{
		{add(table(1, 0, "", long("a", 4086))), 4096},
		{add(table(1, 0, "", long("a", 4087))), 4097},
		{add(table(1, 0, long("a", 4087), "")), 4097},
		{drop(slices.Repeat([]int{1}, 4090)...), 4096},
		{drop(slices.Repeat([]int{1}, 4091)...), 4097},
		{add(slices.Repeat([]api.Table{{}}, 1022)...), 4094},
		{add(slices.Repeat([]api.Table{{}}, 1023)...), 4098},
		{drop(slices.Repeat([]int{math.MaxInt}, 9000)...), 81006},
	} {
		want := payloadOf(c.e)
		if len(want) != c.size {
			t.Fatalf("a payload of %d bytes, not %d", len(want), c.size)
		}
		got, code := manifest.Encode(c.e)
		if c.size <= 4096 && (code != api.OK || string(got) != want) || c.size > 4096 && (code != api.ErrLong || len(got) != 0) {
			t.Errorf("P8.1: Encode of %d bytes: %d bytes, %d", c.size, len(got), code)
		}
		e, code := manifest.Decode([]byte(want))
		if c.size <= 4096 && (code != api.OK || !sameEdit(e, c.e)) || c.size > 4096 && (code != api.ErrManifest || !sameEdit(e, api.Edit{})) {
			t.Errorf("P8.1: Decode of %d bytes: %d", c.size, code)
		}
	}
}

// edits: some of many kinds.
func edits() []api.Edit {
	return []api.Edit{
		{}, {Next: 1}, {Log: 1 << 62}, {Seq: 1 << 62}, {Next: 127, Log: 128, Seq: 300}, drop(0), drop(1, 1, 1<<62), drop(slices.Repeat([]int{130}, 200)...),
		add(a1), add(a1, a1, d4), add(table(1<<62, 1<<62, "", "")), add(table(0, 0, long("z", 65), "a")), add(table(3, 1, long("\xff", 64), long("\x80", 200))),
		{Add: []api.Table{b2, c3}, Drop: []int{7, 300}, Next: 9, Log: 3, Seq: 1 << 40}, add(slices.Repeat([]api.Table{{}}, 130)...),
	}
}

func wantDecode(t *testing.T, b string, e api.Edit, code api.Errno) {
	t.Helper()
	if got, c := manifest.Decode([]byte(b)); c != code || !sameEdit(got, e) {
		t.Errorf("P8.1: Decode(%.60q): %v, %d, want %v, %d", b, got, c, e, code)
	}
}

func TestDecodeIsExact(t *testing.T) {
	for _, e := range edits() {
		whole := payloadOf(e)
		wantDecode(t, whole, e, api.OK)
		for i := range whole {
			wantDecode(t, whole[:i], api.Edit{}, api.ErrManifest)
		}
		for _, more := range []string{"\x00", "\x01", "\x80", "\xff", whole} {
			wantDecode(t, whole+more, api.Edit{}, api.ErrManifest)
		}
	}
}

// TestDecodeOfChangedBytes: whatever a byte is replaced by, an edit is read only from its own payload.
func TestDecodeOfChangedBytes(t *testing.T) {
	for _, e := range edits() {
		whole := []byte(payloadOf(e))
		for i := range whole {
			for _, c := range []byte{0, 1, 2, 64, 65, 127, 128, 129, 255, whole[i] + 1, whole[i] - 1, whole[i] ^ 128} {
				b := slices.Clone(whole)
				b[i] = c
				got, code := manifest.Decode(b)
				if code == api.OK && payloadOf(got) != string(b) || code != api.OK && (code != api.ErrManifest || !sameEdit(got, api.Edit{})) {
					t.Errorf("P8.1: Decode(%q): %v, %d", b, got, code)
				}
			}
		}
	}
}

func TestDecodeOfWhatIsNoPayload(t *testing.T) {
	tooBig := number(1<<62 + 1)
	for _, b := range []string{
		"", "\x00", "\x00\x00\x00\x00", "\x00\x00\x00\x00\x80", "\x00\x00\x00\x00\x80\x00", "\x80\x00\x00\x00\x00\x00", "\x00\x80\x00\x00\x00\x00", "\x00\x00\x81\x00\x00\x00",
		"\x00\x00" + tooBig + "\x00\x00", "\x00\x00\x00" + tooBig + "\x00", "\x00\x00\x00\x00" + tooBig, "\x00\x01" + tooBig + "\x00\x00\x00",
		"\x01" + tooBig + "\x00\x00\x00\x00\x00\x00\x00", "\x01\x01" + tooBig + "\x00\x00\x00\x00\x00\x00", tooBig + "\x00\x00\x00\x00", "\x00" + tooBig + "\x00\x00\x00",
		"\x00\x00\x00\x00" + number(1<<63-1), "\x00\x00\x00\x00\x80\x80\x80\x80\x80\x80\x80\x80\x80\x01", "\x00\x00\x00\x00\xff\xff\xff\xff\xff\xff\xff\xff\xff\x01", "\x00\x00\x00\x00\xff\xff\xff\xff\xff\xff\xff\xff\xff\x02",
		number(1<<62) + "\x00\x00\x00\x00", "\x00" + number(1<<62) + "\x00\x00\x00", number(5000) + strings.Repeat("\x00", 4000), "\x00" + number(5000) + strings.Repeat("\x00", 4000),
		"\x01\x01\x00\x81\x00a\x01c\x00\x02\x00\x00", "\x01\x01\x00\x01a\x05c\x00\x02\x00\x00", "\x01\x01\x00\x01a" + tooBig + "c\x00\x02\x00\x00", "\x01\x01\x00\x01a\xff\xff\xff\xff\xff\xff\xff\xff\xff\x01c\x00\x02\x00\x00",
		"\x02\x01\x00\x01a\x01c\x00\x02\x00\x00", "\x00\x02\x01\x00\x00\x00", strings.Repeat("\x00", 4096), strings.Repeat("\x01", 4096), strings.Repeat("\xff", 4096), strings.Repeat("\x00", 1<<20),
		payloadOf(drop(slices.Repeat([]int{1}, 4091)...)),
	} {
		wantDecode(t, b, api.Edit{}, api.ErrManifest)
	}
}

func TestEveryShortPayload(t *testing.T) {
	var grow func(b []byte)
	grow = func(b []byte) {
		if e, code := manifest.Decode(b); code == api.OK && payloadOf(e) != string(b) || code != api.OK && (code != api.ErrManifest || !sameEdit(e, api.Edit{})) {
			t.Errorf("P8.1: Decode(%q): %v, %d", b, e, code)
		}
		if len(b) == 8 {
			return
		}
		for _, c := range []byte{0, 1, 2, 127, 128} {
			grow(append(b[:len(b):len(b)], c))
		}
	}
	grow(nil)
}
