package wal_test

import (
	"bytes"
	"encoding/binary"
	"fmt"
	"hash/crc32"
	"math"
	"slices"
	"strings"
	"testing"

	"convoy/api"
	"convoy/drive"
	"convoy/wal"
)

// framed: a frame as chapter 1 writes it.
func framed(payload string) string {
	b := binary.AppendUvarint(nil, uint64(len(payload)))
	b = binary.LittleEndian.AppendUint32(b, crc32.ChecksumIEEE([]byte(payload)))
	return string(b) + payload
}

// filled: a payload with whose frame an empty segment has this many bytes (of 6 to 132, or 134 on).
func filled(size int) string {
	if size <= 132 {
		return strings.Repeat("f", size-5)
	}
	return strings.Repeat("F", size-6)
}

func segmentName(n int) string {
	return fmt.Sprintf("wal-%06d", n)
}

func want(t *testing.T, what string, got, code api.Errno) {
	t.Helper()
	if got != code {
		t.Errorf("P3.1: %s: %d, want %d", what, got, code)
	}
}

func wantTexts(t *testing.T, what string, got [][]byte, texts ...string) {
	t.Helper()
	if !sameTexts(got, texts) {
		t.Errorf("P3.1: %s: %.40q, want %.40q", what, got, texts)
	}
}

func sameTexts(got [][]byte, texts []string) bool {
	return slices.EqualFunc(got, texts, func(b []byte, s string) bool { return string(b) == s })
}

func wantFile(t *testing.T, d *drive.Drive, name, whole string, loose int) {
	t.Helper()
	b, e := d.Read(name)
	if e != api.OK || string(b) != whole || d.Loose(name) != loose {
		t.Errorf("P3.1: %s: %d bytes, %d loose, %d; want %d bytes, %d loose", name, len(b), d.Loose(name), e, len(whole), loose)
	}
}

// wantSegments: the log's segment, all segments, and the steps that its drive has executed.
func wantSegments(t *testing.T, d *drive.Drive, l *wal.Log, steps, segment int, all ...int) {
	t.Helper()
	if l.Segment() != segment || !slices.Equal(l.Segments(), all) || d.Steps() != steps {
		t.Errorf("P3.1: segment %d of %v, %d steps; want %d of %v, %d steps", l.Segment(), l.Segments(), d.Steps(), segment, all, steps)
	}
}

func wantRoll(t *testing.T, l *wal.Log, number int, code api.Errno) {
	t.Helper()
	if n, e := l.Roll(); n != number || e != code {
		t.Errorf("P3.1: Roll: %d, %d, want %d, %d", n, e, number, code)
	}
}

// opened: a log that must have these payloads.
func opened(t *testing.T, d *drive.Drive, from int, texts ...string) *wal.Log {
	t.Helper()
	l, payloads, e := wal.Open(d, from)
	if l == nil || e != api.OK {
		t.Fatalf("P3.1: Open: a log: %t, %d", l != nil, e)
	}
	wantTexts(t, fmt.Sprint("Open from ", from), payloads, texts...)
	return l
}

// loaded: a drive with these files, all bytes synced.
func loaded(t *testing.T, files map[string]string) *drive.Drive {
	t.Helper()
	var names []string
	var contents [][]byte
	for name, s := range files {
		names = append(names, name)
		contents = append(contents, []byte(s))
	}
	d, e := drive.Load(names, contents)
	if e != api.OK {
		t.Fatalf("Load: %d", e)
	}
	return d
}

func TestExample(t *testing.T) {
	d := drive.New()
	l := opened(t, d, 1)
	wantSegments(t, d, l, 0, 1)
	want(t, "Append", l.Append([]byte{1, 2, 3}), api.OK)
	wantFile(t, d, "wal-000001", framed("\x01\x02\x03"), 8)
	c := d.Crash(nil)
	wantSegments(t, c, opened(t, c, 1), 0, 2, 1)

	d = drive.New()
	l = opened(t, d, 1)
	big := strings.Repeat("b", 600)
	want(t, "Append of 600 bytes", l.Append([]byte(big)), api.OK)
	want(t, "Append of 600 more", l.Append([]byte(big)), api.OK)
	wantFile(t, d, "wal-000001", framed(big), 0)
	wantFile(t, d, "wal-000002", framed(big), 606)
	wantSegments(t, d, l, 3, 2, 1, 2)
	want(t, "Drop(2)", l.Drop(2), api.OK)
	wantSegments(t, d, l, 4, 2, 2)
	if l, p, e := wal.Open(d, 0); l != nil || len(p) != 0 || e != api.ErrRange {
		t.Errorf("P3.1: Open(d, 0): a log: %t, %d payloads, %d", l != nil, len(p), e)
	}
}

func TestOpenTakesTheNumberOfASegment(t *testing.T) {
	d := loaded(t, map[string]string{"wal-000001": framed("a"), "wal-999998": framed("b")})
	for _, from := range []int{0, -1, 1000000, 1000001, math.MinInt, math.MaxInt} {
		l, p, e := wal.Open(d, from)
		if l != nil || len(p) != 0 || e != api.ErrRange {
			t.Errorf("P3.1: Open(d, %d): a log: %t, %d payloads, %d", from, l != nil, len(p), e)
		}
	}
	opened(t, d, 1, "a", "b")
	opened(t, d, 2, "b")
	opened(t, d, 999998, "b")
	opened(t, d, 999999)
	if d.Steps() != 0 {
		t.Errorf("P3.1: Open executed %d steps", d.Steps())
	}
}

func TestOpenFindsItsSegment(t *testing.T) {
	for _, c := range []struct {
		from    int
		exist   []int
		segment int
	}{
		{1, nil, 1},
		{7, nil, 7},
		{999999, nil, 999999},
		{1, []int{1}, 2},
		{1, []int{4}, 5},
		{1, []int{9, 10, 11}, 12},
		{3, []int{1, 5}, 6},
		{5, []int{1, 5}, 6},
		{6, []int{1, 5}, 6},
		{7, []int{1, 5}, 7},
		{9, []int{1, 99999, 100000}, 100001},
		{1, []int{999998}, 999999},
		{999999, []int{3}, 999999},
		{1, []int{2, 999999}, 1000000},
		{999999, []int{999999}, 1000000},
	} {
		files := map[string]string{"other": "x"}
		for _, n := range c.exist {
			files[segmentName(n)] = ""
		}
		d := loaded(t, files)
		wantSegments(t, d, opened(t, d, c.from), 0, c.segment, c.exist...)
	}
}

func TestOpenReadsEachSegmentAsFarAsItsFramesReach(t *testing.T) {
	d := loaded(t, map[string]string{
		"wal-000002": framed("a") + framed("") + framed("b"),
		"wal-000003": framed("c") + framed("torn")[:8],
		"wal-000005": "",
		"wal-000010": "\x03no frame" + framed("lost"),
		"wal-000009": framed("d") + "\x00" + framed("lost"),
		"wal-000100": framed(strings.Repeat("e", 4096)) + framed("f"),
		"wal-099999": framed("g"),
		"wal-100000": framed("h"),
	})
	all := []string{"a", "", "b", "c", "d", strings.Repeat("e", 4096), "f", "g", "h"}
	for from, texts := range map[int][]string{1: all, 2: all, 3: all[3:], 4: all[4:], 9: all[4:], 10: all[5:], 101: all[7:], 100000: all[8:], 100001: nil} {
		opened(t, d, from, texts...)
	}
	want(t, "Append", d.Append("wal-000005", []byte(framed("loose"))), api.OK)
	opened(t, d, 4, slices.Insert(slices.Clone(all[4:]), 0, "loose")...)
}

// strangers: names that are like those of segments, and are none.
func strangers() []string {
	return []string{"wal-000000", "wal-00001", "wal-0000001", "wal-1000000", "wal-1000001", "wal-00000a", "wal--00001", "wal-0000.1",
		"wal-", "wal", "wal000001", "000001", "1", "wal.000001", "xwal-000001", "wal-wal-000001", "wal-000001.tmp", "wal-000001-", "-wal-000001",
		"manifest-000001", "wal-99999999999999999999", "wal-18446744073709551617"}
}

func TestOtherFilesAreNotTouched(t *testing.T) {
	for _, from := range []int{1, 999999} {
		d := loaded(t, map[string]string{"wal-000001": framed("mine")})
		for _, name := range strangers() {
			want(t, "Append to "+name, d.Append(name, []byte(framed("theirs"))), api.OK)
		}
		before := d.Steps()
		l, p, e := wal.Open(d, from)
		if l == nil || e != api.OK || len(p) > 1 {
			t.Fatalf("P3.3: Open: %d, %q", e, p)
		}
		for _, size := range []int{600, 1024, 6, 6} {
			_ = l.Append([]byte(filled(size)))
			_ = l.Sync()
		}
		_, e = l.Roll()
		want(t, "Roll", e, api.OK)
		want(t, "Sync", l.Sync(), api.OK)
		want(t, "Drop", l.Drop(math.MaxInt), api.OK)
		if d.Steps() == before || len(l.Segments()) != 0 {
			t.Errorf("P3.3: %d steps, %v", d.Steps()-before, l.Segments())
		}
		for _, name := range strangers() {
			wantFile(t, d, name, framed("theirs"), len(framed("theirs")))
		}
		if got := d.Names(); len(got) != len(strangers()) {
			t.Errorf("P3.3: %v", got)
		}
	}
}

func TestASegmentIsFilledToItsGreatestSize(t *testing.T) {
	for _, c := range []struct {
		sizes []int // of frames
		ends  []int // of segments: bytes
	}{
		{[]int{1023}, []int{1023}},
		{[]int{1024}, []int{1024}},
		{[]int{1025}, []int{1025}},
		{[]int{4102}, []int{4102}},
		{[]int{606, 418}, []int{1024}},
		{[]int{606, 419}, []int{606, 419}},
		{[]int{606, 412, 6}, []int{1024}},
		{[]int{606, 413, 6}, []int{1019, 6}},
		{[]int{1019, 5}, []int{1024}},
		{[]int{1020, 5}, []int{1020, 5}},
		{[]int{1024, 5, 1019}, []int{1024, 1024}},
		{[]int{1025, 5, 1020}, []int{1025, 5, 1020}},
		{[]int{6, 4102, 6}, []int{6, 4102, 6}},
		{[]int{1024, 1024, 1024}, []int{1024, 1024, 1024}},
	} {
		d := drive.New()
		l := opened(t, d, 1)
		for _, size := range c.sizes {
			want(t, fmt.Sprint("Append, a frame of ", size), l.Append([]byte(filled(size))), api.OK)
		}
		var all []int
		for i, end := range c.ends {
			all = append(all, i+1)
			loose := 0
			if i == len(c.ends)-1 {
				loose = end
			}
			if name := segmentName(i + 1); d.Size(name) != end || d.Loose(name) != loose {
				t.Errorf("P3.1: frames of %v: %s has %d bytes, %d loose; want %d, %d", c.sizes, name, d.Size(name), d.Loose(name), end, loose)
			}
		}
		wantSegments(t, d, l, len(c.sizes)+len(c.ends)-1, len(c.ends), all...)
	}
}

func TestAppendIsOneStep(t *testing.T) {
	d := drive.New()
	l := opened(t, d, 4)
	whole := ""
	for i, s := range []string{"a", "", strings.Repeat("x", 127), strings.Repeat("y", 128), "\x00\xff"} {
		want(t, "Append", l.Append([]byte(s)), api.OK)
		whole += framed(s)
		wantFile(t, d, "wal-000004", whole, len(whole))
		wantSegments(t, d, l, i+1, 4, 4)
	}
	want(t, "Append of none", l.Append(nil), api.OK)
	wantFile(t, d, "wal-000004", whole+framed(""), len(whole)+5)
}

func TestAppendOfALongPayload(t *testing.T) {
	d := drive.New()
	l := opened(t, d, 1)
	want(t, "Append of 4096 bytes", l.Append(make([]byte, 4096)), api.OK)
	want(t, "Append of 4097 bytes", l.Append(make([]byte, 4097)), api.ErrLong)
	want(t, "Append of many bytes", l.Append(make([]byte, 300000)), api.ErrLong)
	wantSegments(t, d, l, 1, 1, 1)
	if d.Size("wal-000001") != 4102 || d.Loose("wal-000001") != 4102 {
		t.Errorf("P3.1: ErrLong changed the segment: %d bytes, %d loose", d.Size("wal-000001"), d.Loose("wal-000001"))
	}
}

func TestSyncIsAStepWhereBytesAreLoose(t *testing.T) {
	d := drive.New()
	l := opened(t, d, 1)
	want(t, "Sync of no file", l.Sync(), api.OK)
	wantSegments(t, d, l, 0, 1)
	want(t, "Append", l.Append([]byte("a")), api.OK)
	want(t, "Sync", l.Sync(), api.OK)
	wantFile(t, d, "wal-000001", framed("a"), 0)
	want(t, "Sync of nothing loose", l.Sync(), api.OK)
	wantSegments(t, d, l, 2, 1, 1)
	want(t, "Append", l.Append([]byte("b")), api.OK)
	want(t, "Append", l.Append([]byte("c")), api.OK)
	want(t, "Sync", l.Sync(), api.OK)
	wantFile(t, d, "wal-000001", framed("a")+framed("b")+framed("c"), 0)
	wantSegments(t, d, l, 5, 1, 1)
}

func TestSyncLeavesSegmentsOfAnElderLog(t *testing.T) {
	d := drive.New()
	want(t, "Append", opened(t, d, 1).Append([]byte("a")), api.OK)
	l := opened(t, d, 1, "a")
	want(t, "Sync", l.Sync(), api.OK)
	wantRoll(t, l, 3, api.OK)
	wantFile(t, d, "wal-000001", framed("a"), 6)
	wantSegments(t, d, l, 1, 3, 1)
}

func TestRoll(t *testing.T) {
	d := drive.New()
	l := opened(t, d, 3)
	wantRoll(t, l, 4, api.OK)
	wantRoll(t, l, 5, api.OK)
	wantSegments(t, d, l, 0, 5)
	want(t, "Append", l.Append([]byte("a")), api.OK)
	wantRoll(t, l, 6, api.OK)
	wantFile(t, d, "wal-000005", framed("a"), 0)
	wantSegments(t, d, l, 2, 6, 5)
	want(t, "Append", l.Append([]byte("b")), api.OK)
	want(t, "Sync", l.Sync(), api.OK)
	wantRoll(t, l, 7, api.OK)
	wantSegments(t, d, l, 4, 7, 5, 6)
}

func TestBehindTheLastSegment(t *testing.T) {
	d := drive.New()
	l := opened(t, d, 999998)
	want(t, "Append", l.Append([]byte(filled(1024))), api.OK)
	want(t, "Append to the last one", l.Append([]byte(filled(1000))), api.OK)
	wantSegments(t, d, l, 3, 999999, 999998, 999999)
	// Append rolls first, and only then finds no segment: what was loose is synced.
	want(t, "Append to none", l.Append([]byte(filled(25))), api.ErrFull)
	wantFile(t, d, "wal-999999", framed(filled(1000)), 0)
	wantSegments(t, d, l, 4, 1000000, 999998, 999999)
	want(t, "Append to none", l.Append(nil), api.ErrFull)
	want(t, "Append of 4097 bytes to none", l.Append(make([]byte, 4097)), api.ErrLong)
	want(t, "Sync of none", l.Sync(), api.OK)
	wantRoll(t, l, 1000000, api.OK)
	wantRoll(t, l, 1000000, api.OK)
	wantSegments(t, d, l, 4, 1000000, 999998, 999999)
	want(t, "Drop", l.Drop(1000000), api.OK)
	wantSegments(t, d, l, 6, 1000000)
	wantSegments(t, d, opened(t, d, 999999), 6, 999999)

	d = loaded(t, map[string]string{"wal-999999": framed("a")})
	l = opened(t, d, 999999, "a")
	want(t, "Append to none", l.Append([]byte("b")), api.ErrFull)
	wantRoll(t, l, 1000000, api.OK)
	want(t, "Arm(0)", d.Arm(0), api.OK)
	want(t, "Append to none on a dead drive", l.Append([]byte("b")), api.ErrFull)
	want(t, "Drop on a dead drive", l.Drop(1000000), api.ErrDead)
	want(t, "Append of a dead log", l.Append([]byte("b")), api.ErrDead)
	want(t, "Append of 4097 bytes of a dead log", l.Append(make([]byte, 4097)), api.ErrLong)
	wantSegments(t, d, l, 0, 1000000, 999999)
}

// crowded: a drive with as many files as there may be, and a log on it whose segment 1 has these loose bytes.
func crowded(t *testing.T, size int) (*drive.Drive, *wal.Log) {
	t.Helper()
	d := drive.New()
	l := opened(t, d, 1)
	want(t, "Append", l.Append([]byte(filled(size))), api.OK)
	for i := range 255 {
		want(t, "Append", d.Append(fmt.Sprint("f", i), nil), api.OK)
	}
	return d, l
}

func TestAFullDrive(t *testing.T) {
	d, l := crowded(t, 1000)
	want(t, "Append where there is room", l.Append([]byte(filled(24))), api.OK)
	wantSegments(t, d, l, 257, 1, 1)
	want(t, "Append where there is none", l.Append([]byte("a")), api.ErrFull)
	wantFile(t, d, "wal-000001", framed(filled(1000))+framed(filled(24)), 0)
	wantSegments(t, d, l, 258, 2, 1)
	want(t, "Append where there is none", l.Append([]byte("a")), api.ErrFull)
	wantSegments(t, d, l, 258, 2, 1)
	want(t, "Sync", l.Sync(), api.OK)
	want(t, "Delete", d.Delete("f0"), api.OK)
	want(t, "Append where there is room again", l.Append([]byte("b")), api.OK)
	wantFile(t, d, "wal-000002", framed("b"), 6)
	wantSegments(t, d, l, 260, 2, 1, 2)

	d, l = crowded(t, 1000)
	wantRoll(t, l, 2, api.OK)
	want(t, "Arm(0)", d.Arm(0), api.OK)
	want(t, "Append to a drive full and dead", l.Append([]byte("a")), api.ErrFull)
	want(t, "Sync, nothing loose", l.Sync(), api.OK)
	want(t, "Drop on a dead drive", l.Drop(2), api.ErrDead)
	want(t, "Append of a dead log to a drive full and dead", l.Append([]byte("a")), api.ErrDead)

	d, l = crowded(t, 1000)
	want(t, "Arm(0)", d.Arm(0), api.OK)
	want(t, "Append that can't roll on a drive full and dead", l.Append([]byte(filled(25))), api.ErrDead)
	wantSegments(t, d, l, 256, 1, 1)
}

func TestDrop(t *testing.T) {
	files := map[string]string{"other": ""}
	for _, n := range []int{2, 3, 5, 10} {
		files[segmentName(n)] = framed("x")
	}
	d := loaded(t, files)
	l := opened(t, d, 10, "x")
	want(t, "Append", l.Append([]byte("a")), api.OK)
	for _, before := range []int{math.MinInt, -1, 0, 1, 2} {
		want(t, fmt.Sprint("Drop of none: ", before), l.Drop(before), api.OK)
	}
	wantSegments(t, d, l, 1, 11, 2, 3, 5, 10, 11)
	want(t, "Drop(3)", l.Drop(3), api.OK)
	wantSegments(t, d, l, 2, 11, 3, 5, 10, 11)
	want(t, "Drop(6)", l.Drop(6), api.OK)
	wantSegments(t, d, l, 4, 11, 10, 11)
	want(t, "Drop(11)", l.Drop(11), api.OK)
	wantSegments(t, d, l, 5, 11, 11)
	want(t, "Drop(12)", l.Drop(12), api.OK)
	want(t, "Drop of all", l.Drop(math.MaxInt), api.OK)
	wantSegments(t, d, l, 5, 11, 11)
	wantFile(t, d, "wal-000011", framed("a"), 6)
	wantRoll(t, l, 12, api.OK)
	want(t, "Drop(12)", l.Drop(12), api.OK)
	wantSegments(t, d, l, 7, 12)
}

func TestDropGoesFromTheLeastNumberOn(t *testing.T) {
	d := loaded(t, map[string]string{"wal-000002": "", "wal-000010": "", "wal-000009": "", "wal-000100": ""})
	l := opened(t, d, 1)
	want(t, "Arm(2)", d.Arm(2), api.OK)
	want(t, "Drop", l.Drop(101), api.ErrDead)
	wantSegments(t, d, l, 2, 101, 10, 100)
}

// wantDead: the log answers so whatever is asked, and does nothing.
func wantDead(t *testing.T, d *drive.Drive, l *wal.Log) {
	t.Helper()
	steps, segment, all := d.Steps(), l.Segment(), l.Segments()
	for range 2 {
		want(t, "Append of a dead log", l.Append([]byte("z")), api.ErrDead)
		want(t, "Append of a dead log", l.Append(nil), api.ErrDead)
		want(t, "Append of 4097 bytes of a dead log", l.Append(make([]byte, 4097)), api.ErrLong)
		want(t, "Sync of a dead log", l.Sync(), api.ErrDead)
		wantRoll(t, l, 0, api.ErrDead)
		want(t, "Drop of a dead log", l.Drop(math.MinInt), api.ErrDead)
		want(t, "Drop of a dead log", l.Drop(math.MaxInt), api.ErrDead)
	}
	wantSegments(t, d, l, steps, segment, all...)
}

func TestDeadLogs(t *testing.T) {
	for what, c := range map[string]struct {
		do      func(l *wal.Log) api.Errno
		left    int
		first   string // appended ahead of it
		segment int
		loose   int
	}{
		"Append":             {func(l *wal.Log) api.Errno { return l.Append([]byte("a")) }, 0, "", 2, 0},
		"Append behind":      {func(l *wal.Log) api.Errno { return l.Append([]byte("a")) }, 0, "b", 2, 6},
		"Append that rolls":  {func(l *wal.Log) api.Errno { return l.Append([]byte("a")) }, 0, filled(1020), 2, 1020},
		"Append that rolled": {func(l *wal.Log) api.Errno { return l.Append([]byte("a")) }, 1, filled(1020), 3, 0},
		"Sync":               {func(l *wal.Log) api.Errno { return l.Sync() }, 0, "b", 2, 6},
		"Roll":               {func(l *wal.Log) api.Errno { _, e := l.Roll(); return e }, 0, "b", 2, 6},
		"Drop":               {func(l *wal.Log) api.Errno { return l.Drop(2) }, 0, "b", 2, 6},
	} {
		d := loaded(t, map[string]string{"wal-000001": ""})
		l := opened(t, d, 1)
		if c.first != "" {
			want(t, "Append", l.Append([]byte(c.first)), api.OK)
		}
		want(t, "Arm", d.Arm(c.left), api.OK)
		want(t, what, c.do(l), api.ErrDead)
		if l.Segment() != c.segment || d.Loose("wal-000002") != c.loose || len(d.Names()) != min(len(c.first), 1)+1 {
			t.Errorf("P3.1: %s: segment %d, %d loose, files %v", what, l.Segment(), d.Loose("wal-000002"), d.Names())
		}
		wantDead(t, d, l)
	}
}

func TestALiveLogOnADeadDrive(t *testing.T) {
	d := loaded(t, map[string]string{"wal-000001": framed("a"), "wal-000003": framed("b")})
	want(t, "Arm(0)", d.Arm(0), api.OK)
	l := opened(t, d, 1, "a", "b")
	want(t, "Sync, nothing loose", l.Sync(), api.OK)
	wantRoll(t, l, 5, api.OK)
	want(t, "Drop of none", l.Drop(1), api.OK)
	want(t, "Append of 4097 bytes", l.Append(make([]byte, 4097)), api.ErrLong)
	wantRoll(t, l, 6, api.OK)
	want(t, "Append", l.Append([]byte("c")), api.ErrDead)
	wantDead(t, d, l)
	wantSegments(t, d, l, 0, 6, 1, 3)
	opened(t, d, 1, "a", "b")
}

func TestLogsOfTwoDrives(t *testing.T) {
	d, c := drive.New(), drive.New()
	l, k := opened(t, d, 1), opened(t, c, 5)
	want(t, "Append", l.Append([]byte("a")), api.OK)
	want(t, "Arm(0)", d.Arm(0), api.OK)
	want(t, "Append", l.Append([]byte("b")), api.ErrDead)
	want(t, "Append", k.Append([]byte("c")), api.OK)
	wantSegments(t, d, l, 1, 1, 1)
	wantSegments(t, c, k, 1, 5, 5)
	x := opened(t, d.Crash([]int{9}), 1, "a")
	want(t, "Append behind the loss of power", x.Append([]byte("d")), api.OK)
	wantFile(t, d, "wal-000001", framed("a"), 6)
}

// roomy: a copy with spare capacity, all of which is known.
func roomy(s string) []byte {
	return append([]byte(s), "spare"...)[:len(s)]
}

func scribble[T any](s []T, v T) {
	s = s[:cap(s)]
	for i := range s {
		s[i] = v
	}
}

func TestArgumentsAreNeitherModifiedNorRetained(t *testing.T) {
	d := drive.New()
	l := opened(t, d, 1)
	for _, s := range []string{"abc", "", filled(1010), "d"} {
		b := roomy(s)
		want(t, "Append", l.Append(b), api.OK)
		if whole := string(b[:len(b)+5]); whole != s+"spare" {
			t.Errorf("P3.4: an argument was modified: %.40q", whole)
		}
		scribble(b, 'x')
	}
	opened(t, d, 1, "abc", "", filled(1010), "d")
}

func TestResultsAreNewMemory(t *testing.T) {
	d := loaded(t, map[string]string{"wal-000001": framed("ab") + framed("cd"), "wal-000002": framed("") + framed("e")})
	_, first, _ := wal.Open(d, 1)
	l, second, e := wal.Open(d, 1)
	want(t, "Open", e, api.OK)
	for i, b := range first {
		rest := slices.Delete(slices.Clone(first), i, i+1)
		before := bytes.Join(rest, []byte("|"))
		scribble(b, 'x')
		if !bytes.Equal(bytes.Join(rest, []byte("|")), before) {
			t.Errorf("P3.4: payload %d shares memory with another one", i)
		}
	}
	scribble(first, nil)
	wantTexts(t, "another Open", second, "ab", "cd", "", "e")
	wantFile(t, d, "wal-000001", framed("ab")+framed("cd"), 0)
	numbers, others := l.Segments(), l.Segments()
	scribble(numbers, 77)
	if !slices.Equal(others, []int{1, 2}) || !slices.Equal(l.Segments(), []int{1, 2}) || l.Segment() != 3 {
		t.Errorf("P3.4: Segments share memory: %v, %v, %d", others, l.Segments(), l.Segment())
	}
}

func TestOpenTerminatesForAnyBytes(t *testing.T) {
	m := mixer(5)
	for range 300 {
		files := map[string]string{}
		for range m.below(6) {
			files[segmentName(1+m.below(9))] = m.rubbish()
		}
		d := loaded(t, files)
		l, _, e := wal.Open(d, 1+m.below(9))
		if l == nil || e != api.OK {
			t.Fatalf("P3.3: Open: a log: %t, %d", l != nil, e)
		}
		for name, s := range files {
			wantFile(t, d, name, s, 0)
		}
		want(t, "Append behind rubbish", l.Append([]byte("new")), api.OK)
		wantFile(t, d, segmentName(l.Segment()), framed("new"), 8)
		_, p, _ := wal.Open(d, l.Segment())
		wantTexts(t, "Open behind rubbish", p, "new")
	}
	d := loaded(t, map[string]string{"wal-000001": strings.Repeat("\x00", 262144), "wal-000002": strings.Repeat("\xff", 262144)})
	_, p, _ := wal.Open(d, 1)
	if len(p) != 262144/5 {
		t.Errorf("P3.3: %d frames of no bytes", len(p))
	}
}
