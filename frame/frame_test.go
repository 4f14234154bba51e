package frame_test

import (
	"bytes"
	"hash/crc32"
	"math"
	"math/bits"
	"slices"
	"strings"
	"testing"

	"convoy/api"
	"convoy/frame"
)

// mixer yields a fixed series of numbers (xorshift), so that every run of the tests is the same.
type mixer uint64

func (m *mixer) next() uint64 {
	*m ^= *m << 13
	*m ^= *m >> 7
	*m ^= *m << 17
	return uint64(*m)
}

func (m *mixer) bytes(n int) []byte {
	out := make([]byte, n)
	for i := range out {
		out[i] = byte(m.next() >> 24)
	}
	return out
}

// edgeNumbers: each power of two, and those beside it.
func edgeNumbers() []uint64 {
	ns := []uint64{0, 300, math.MaxUint64}
	for i := range 64 {
		p := uint64(1) << i
		ns = append(ns, p-1, p, p+1)
	}
	return ns
}

// edgePayloads: of the lengths at which a frame's form changes, and of ordinary bytes.
func edgePayloads() [][]byte {
	m := mixer(7)
	out := [][]byte{{}, {0}, {255}, []byte("123456789"), {0, 0, 0, 0, 0}}
	for _, n := range []int{2, 3, 126, 127, 128, 129, 255, 256, 4095, api.MaxPayload} {
		out = append(out, m.bytes(n))
	}
	return out
}

// sealed: the frame of a payload that isn't too long.
func sealed(t *testing.T, payload []byte) []byte {
	t.Helper()
	b, e := frame.Seal(payload)
	if e != api.OK {
		t.Fatalf("P1.1: Seal of %d bytes: errno %d", len(payload), e)
	}
	return b
}

// framed: a frame as the chapter writes it, for any payload and any sum.
func framed(size []byte, sum uint32, payload []byte) []byte {
	b := append(slices.Clone(size), byte(sum), byte(sum>>8), byte(sum>>16), byte(sum>>24))
	return append(b, payload...)
}

func wantNoFrame(t *testing.T, promise string, b []byte) {
	t.Helper()
	if p, n, e := frame.Take(b); len(p) != 0 || n != 0 || e != api.ErrFrame {
		t.Errorf("%s: Take of %d bytes %v..: %d bytes, %d, errno %d; want none, 0, ErrFrame", promise, len(b), b[:min(len(b), 12)], len(p), n, e)
	}
}

func TestUintEncodesSevenBitsAByte(t *testing.T) {
	for _, c := range []struct {
		n    uint64
		want []byte
	}{
		{0, []byte{0}},
		{1, []byte{1}},
		{127, []byte{127}},
		{128, []byte{128, 1}},
		{300, []byte{172, 2}},
		{16383, []byte{255, 127}},
		{16384, []byte{128, 128, 1}},
		{1 << 63, []byte{128, 128, 128, 128, 128, 128, 128, 128, 128, 1}},
		{math.MaxUint64, []byte{255, 255, 255, 255, 255, 255, 255, 255, 255, 1}},
	} {
		if got := frame.Uint(c.n); !slices.Equal(got, c.want) {
			t.Errorf("P1.1: Uint(%d): %v, want %v", c.n, got, c.want)
		}
	}
}

func TestUintIsAsShortAsPossible(t *testing.T) {
	for _, n := range edgeNumbers() {
		want := max(1, (bits.Len64(n)+6)/7)
		if got := len(frame.Uint(n)); got != want {
			t.Errorf("P1.1: Uint(%d) has %d bytes, want %d", n, got, want)
		}
	}
}

func TestTakeUintReadsWhatUintWrote(t *testing.T) {
	for _, n := range edgeNumbers() {
		b := frame.Uint(n)
		for _, after := range [][]byte{nil, {0}, {9}, {128}, {255, 255}} {
			if got, size := frame.TakeUint(append(slices.Clone(b), after...)); got != n || size != len(b) {
				t.Errorf("P1.2: TakeUint of %v and %v: %d, %d; want %d, %d", b, after, got, size, n, len(b))
			}
		}
		for cut := range len(b) {
			if got, size := frame.TakeUint(b[:cut]); got != 0 || size != 0 {
				t.Errorf("P1.1: TakeUint(%v): %d, %d; want 0, 0", b[:cut], got, size)
			}
		}
	}
}

func TestTakeUintRejectsOtherForms(t *testing.T) {
	for _, b := range [][]byte{
		nil,
		{128},
		{128, 0},
		{172, 130, 0},
		{255, 128, 0},
		{128, 128, 128, 128, 128, 128, 128, 128, 128, 0},
		{128, 128, 128, 128, 128, 128, 128, 128, 128, 2},
		{255, 255, 255, 255, 255, 255, 255, 255, 255, 2},
		{255, 255, 255, 255, 255, 255, 255, 255, 255, 127},
		{255, 255, 255, 255, 255, 255, 255, 255, 255, 129, 0},
		{128, 128, 128, 128, 128, 128, 128, 128, 128, 128, 1},
		bytes.Repeat([]byte{128}, 100),
		bytes.Repeat([]byte{255}, 100),
	} {
		if n, size := frame.TakeUint(b); n != 0 || size != 0 {
			t.Errorf("P1.1: TakeUint(%v): %d, %d; want 0, 0", b, n, size)
		}
	}
}

// everyString calls f with all strings of up to n of the bytes of an alphabet.
func everyString(alphabet []byte, n int, f func(b []byte)) {
	var grow func(b []byte)
	grow = func(b []byte) {
		f(b)
		if len(b) == n {
			return
		}
		for _, c := range alphabet {
			grow(append(b[:len(b):len(b)], c))
		}
	}
	grow(nil)
}

// checkOnlyWritten: what TakeUint reads from b is what Uint writes, and it reads it where any beginning of b is what Uint writes.
func checkOnlyWritten(t *testing.T, b []byte) {
	n, size := frame.TakeUint(b)
	if size > len(b) || size > 0 && !slices.Equal(frame.Uint(n), b[:size]) {
		t.Errorf("P1.2: TakeUint(%v): %d, %d, which Uint writes otherwise", b, n, size)
	}
	if size == 0 && n != 0 {
		t.Errorf("P1.1: TakeUint(%v): %d with length 0", b, n)
	}
	end := slices.IndexFunc(b, func(c byte) bool { return c < 128 })
	if size == 0 && end >= 0 && end < 9 && (end == 0 || b[end] != 0) {
		t.Errorf("P1.2: TakeUint(%v) reads nothing, though it begins with a number", b)
	}
}

func TestTakeUintReadsOnlyWhatUintWrites(t *testing.T) {
	all := make([]byte, 256)
	for i := range all {
		all[i] = byte(i)
	}
	everyString(all, 2, func(b []byte) { checkOnlyWritten(t, b) })
	everyString([]byte{0, 1, 2, 127, 128, 129, 255}, 4, func(b []byte) {
		checkOnlyWritten(t, b)
		for _, c := range []byte{128, 255} {
			checkOnlyWritten(t, append(bytes.Repeat([]byte{c}, 8), b...))
		}
	})
}

func edgeTexts() []string {
	return []string{"", "a", "ab", "\x00", "\xff\xfe", "żółw", strings.Repeat("x", 127), strings.Repeat("y", 128), strings.Repeat("z", 70000)}
}

func TestTextIsItsLengthAndItsBytes(t *testing.T) {
	if got := frame.Text("ab"); !slices.Equal(got, []byte{2, 97, 98}) {
		t.Errorf("P1.1: Text(ab): %v", got)
	}
	for _, s := range edgeTexts() {
		want := append(frame.Uint(uint64(len(s))), s...)
		if got := frame.Text(s); !slices.Equal(got, want) {
			t.Errorf("P1.1: Text of %d bytes: %v..", len(s), got[:min(len(got), 12)])
		}
	}
}

func TestTakeTextReadsWhatTextWrote(t *testing.T) {
	for _, s := range edgeTexts() {
		b := frame.Text(s)
		for _, after := range [][]byte{nil, {0}, {1, 'q'}, {255}} {
			if got, n := frame.TakeText(append(slices.Clone(b), after...)); got != s || n != len(b) {
				t.Errorf("P1.2: TakeText of a text of %d bytes and %v: %d bytes, %d", len(s), after, len(got), n)
			}
		}
		for cut := 0; cut < len(b); cut += 1 + cut/200 {
			if got, n := frame.TakeText(b[:cut]); got != "" || n != 0 {
				t.Errorf("P1.1: TakeText of %d of %d bytes: %d bytes, %d; want none, 0", cut, len(b), len(got), n)
			}
		}
	}
}

func TestTakeTextRejectsOtherForms(t *testing.T) {
	for _, b := range [][]byte{
		nil,
		{1},
		{3, 'a', 'b'},
		{128},
		{128, 0},
		{129, 0, 'a'},
		append(frame.Uint(math.MaxUint64), 'a', 'b'),
		append(frame.Uint(math.MaxUint64-9), 'a', 'b'),
		append(frame.Uint(1<<63), 'a', 'b'),
		append(frame.Uint(1<<63-1), 'a', 'b'),
		append(frame.Uint(1<<32), 'a', 'b'),
		{255, 255, 255, 255, 255, 255, 255, 255, 255, 2, 'a'},
	} {
		if s, n := frame.TakeText(b); s != "" || n != 0 {
			t.Errorf("P1.1: TakeText(%v): %q, %d; want none, 0", b, s, n)
		}
	}
}

func TestSumIsTheCRC32(t *testing.T) {
	if got := frame.Sum([]byte("123456789")); got != 0xcbf43926 {
		t.Errorf("P1.1: Sum of 123456789: %x", got)
	}
	if got := frame.Sum(nil); got != 0 {
		t.Errorf("P1.1: Sum of no bytes: %x", got)
	}
	for c := range 256 {
		b := []byte{byte(c)}
		if got, want := frame.Sum(b), crc32.ChecksumIEEE(b); got != want {
			t.Errorf("P1.1: Sum(%v): %x, want %x", b, got, want)
		}
	}
	m := mixer(3)
	for n := range 300 {
		b := m.bytes(n * n / 9)
		if got, want := frame.Sum(b), crc32.ChecksumIEEE(b); got != want {
			t.Errorf("P1.1: Sum of %d bytes: %x, want %x", len(b), got, want)
		}
	}
}

func TestSealIsLengthSumPayload(t *testing.T) {
	if got := sealed(t, nil); !slices.Equal(got, []byte{0, 0, 0, 0, 0}) {
		t.Errorf("P1.1: Seal of no bytes: %v", got)
	}
	if got := sealed(t, []byte("123456789")); !slices.Equal(got, []byte("\x09\x26\x39\xf4\xcb123456789")) {
		t.Errorf("P1.1: Seal of 123456789: %v", got)
	}
	for _, p := range edgePayloads() {
		want := framed(frame.Uint(uint64(len(p))), crc32.ChecksumIEEE(p), p)
		if got := sealed(t, p); !slices.Equal(got, want) {
			t.Errorf("P1.1: Seal of %d bytes: %v..", len(p), got[:min(len(got), 12)])
		}
	}
}

func TestSealRejectsALongPayload(t *testing.T) {
	for _, n := range []int{4097, 4098, 1 << 16} {
		if b, e := frame.Seal(make([]byte, n)); len(b) != 0 || e != api.ErrLong {
			t.Errorf("P1.1: Seal of %d bytes: %d bytes, errno %d; want none, ErrLong", n, len(b), e)
		}
	}
}

func TestTakeReadsWhatSealWrote(t *testing.T) {
	for _, p := range edgePayloads() {
		b := sealed(t, p)
		for _, after := range [][]byte{nil, {0}, {5}, {255, 255}, b} {
			got, n, e := frame.Take(append(slices.Clone(b), after...))
			if !slices.Equal(got, p) || n != len(b) || e != api.OK {
				t.Errorf("P1.2: Take of a frame of %d bytes and %d more: %d bytes, %d, errno %d", len(b), len(after), len(got), n, e)
			}
		}
		for cut := range len(b) {
			wantNoFrame(t, "P1.2", b[:cut])
		}
	}
}

func TestTakeRejectsOtherForms(t *testing.T) {
	long := make([]byte, api.MaxPayload+1)
	one := []byte{1}
	for _, b := range [][]byte{
		nil,
		{0},
		{0, 0, 0, 0},
		{0, 1, 0, 0, 0},
		{128, 0, 0, 0, 0, 0},
		framed(frame.Uint(4097), crc32.ChecksumIEEE(long), long),
		framed([]byte{129, 0}, crc32.ChecksumIEEE(one), one),
		framed([]byte{1}, bits.ReverseBytes32(crc32.ChecksumIEEE(one)), one),
		framed(frame.Uint(math.MaxUint64), 0, nil),
		framed(frame.Uint(math.MaxUint64-4), 0, nil),
		framed(frame.Uint(1<<63), 0, nil),
		framed(frame.Uint(1<<63-1), 0, nil),
		framed([]byte{255, 255, 255, 255, 255, 255, 255, 255, 255, 2}, 0, nil),
		bytes.Repeat([]byte{255}, 5000),
	} {
		wantNoFrame(t, "P1.1", b)
		if l, n := frame.Scan(b); len(l) != 0 || n != 0 {
			t.Errorf("P1.1: Scan of %d bytes: %d payloads, %d; want none, 0", len(b), len(l), n)
		}
	}
}

// checkScan: Scan of b reads exactly the first count of the payloads, and ends at done.
func checkScan(t *testing.T, promise string, b []byte, payloads [][]byte, count, done int) {
	t.Helper()
	got, n := frame.Scan(b)
	if n != done || !slices.EqualFunc(got, payloads[:count], slices.Equal[[]byte]) {
		t.Errorf("%s: Scan of %d bytes: %d payloads, %d; want %d, %d", promise, len(b), len(got), n, count, done)
	}
}

func TestScanOfTruncatedFrames(t *testing.T) {
	payloads := edgePayloads()
	var all []byte
	ends := []int{0}
	for _, p := range payloads {
		all = append(all, sealed(t, p)...)
		ends = append(ends, len(all))
	}
	checkScan(t, "P1.1", all, payloads, len(payloads), len(all))
	for i, p := range payloads {
		checkScan(t, "P1.2", all[ends[i]:ends[i+1]], [][]byte{p}, 1, ends[i+1]-ends[i])
	}
	count := 0
	for cut := 0; cut < len(all); cut += 1 + cut/400 {
		for count+1 < len(ends) && ends[count+1] <= cut {
			count++
		}
		checkScan(t, "P1.2", all[:cut], payloads, count, ends[count])
	}
	for i, end := range ends[1:] {
		checkScan(t, "P1.2", all[:end-1], payloads, i, ends[i])
		checkScan(t, "P1.2", all[:end], payloads, i+1, end)
	}
}

func TestScanEndsAtWhatIsNoFrame(t *testing.T) {
	payloads := [][]byte{[]byte("one"), {}, []byte("three")}
	var all []byte
	for _, p := range payloads {
		all = append(all, sealed(t, p)...)
	}
	two := len(all) - len(sealed(t, payloads[2]))
	broken := slices.Clone(all)
	broken[len(broken)-1] ^= 1
	checkScan(t, "P1.1", append(slices.Clone(all), 5), payloads, 3, len(all))
	checkScan(t, "P1.1", append(slices.Clone(all), 128, 0, 0, 0, 0, 0), payloads, 3, len(all))
	checkScan(t, "P1.1", append(broken, all...), payloads, 2, two)
	checkScan(t, "P1.1", append([]byte{7}, all...), payloads, 0, 0)
	checkScan(t, "P1.1", nil, payloads, 0, 0)
}

// checkBursts replaces size bytes from at on, once by each of the patterns, the zero bytes of which leave their byte as it is.
func checkBursts(t *testing.T, whole []byte, at, size int, patterns []uint32) {
	t.Helper()
	b := slices.Clone(whole)
	for _, x := range patterns {
		if x == 0 {
			continue
		}
		for i := range size {
			b[at+i] = whole[at+i] ^ byte(x>>(8*i))
		}
		wantNoFrame(t, "P1.3", b)
	}
}

// burstPatterns: all of one byte; of two to four bytes the edges and a series of others.
func burstPatterns(size int) []uint32 {
	var out []uint32
	if size == 1 {
		for x := range uint32(256) {
			out = append(out, x)
		}
		return out
	}
	whole := uint32(1)<<(8*size) - 1
	m := mixer(size)
	for i := range 8 * size {
		out = append(out, 1<<i, whole>>i, whole<<i&whole, 1<<i|1, 1<<i|1<<(8*size-1))
	}
	for range 300 {
		out = append(out, uint32(m.next()>>16)&whole)
	}
	return append(out, 0xedb88320&whole, 0x04c11db7&whole)
}

func TestTakeDetectsBursts(t *testing.T) {
	m := mixer(11)
	for _, p := range [][]byte{{5}, {0, 0}, []byte("123456789"), m.bytes(130)} {
		b := sealed(t, p)
		sum := len(b) - len(p) - 4
		for size := range 5 {
			patterns := burstPatterns(size)
			for at := sum; at+size <= sum+4; at++ {
				checkBursts(t, b, at, size, patterns)
			}
			for at := sum + 4; at+size <= len(b); at++ {
				checkBursts(t, b, at, size, patterns)
			}
		}
	}
}

func TestTakeDetectsBurstsInALongPayload(t *testing.T) {
	m := mixer(13)
	b := sealed(t, m.bytes(api.MaxPayload))
	for _, at := range []int{2, 6, 7, 2000, len(b) - 4} {
		checkBursts(t, b, at, 4, burstPatterns(4)[:60])
	}
}

// uses: each function that takes bytes, with what it returns in new memory.
func uses() map[string]func(b []byte) [][]byte {
	return map[string]func(b []byte) [][]byte{
		"TakeUint": func(b []byte) [][]byte { frame.TakeUint(b); return nil },
		"TakeText": func(b []byte) [][]byte { s, _ := frame.TakeText(b); return [][]byte{frame.Text(s)} },
		"Sum":      func(b []byte) [][]byte { frame.Sum(b); return nil },
		"Seal":     func(b []byte) [][]byte { out, _ := frame.Seal(b); return [][]byte{out} },
		"Take":     func(b []byte) [][]byte { out, _, _ := frame.Take(b); return [][]byte{out} },
		"Scan":     func(b []byte) [][]byte { out, _ := frame.Scan(b); return out },
	}
}

// checkMemory: use leaves the argument and what lies behind it as they are, and its results share memory neither with it nor with one another.
func checkMemory(t *testing.T, name string, arg []byte, use func(b []byte) [][]byte) {
	t.Helper()
	room := append(slices.Clone(arg), bytes.Repeat([]byte{0xa5}, 64)...)
	before := slices.Clone(room)
	got := use(room[:len(arg)])
	if !slices.Equal(room, before) {
		t.Errorf("P1.4: %s changed its argument", name)
	}
	want := make([][]byte, len(got))
	for i := range got {
		want[i] = slices.Clone(got[i])
	}
	clear(room)
	for i := range got {
		if !slices.Equal(got[i], want[i]) {
			t.Errorf("P1.4: %s: result %d shares memory with the argument", name, i)
		}
		spare := got[i][:cap(got[i])]
		for j := range spare {
			spare[j] = 0xee
		}
		if slices.ContainsFunc(room, func(c byte) bool { return c != 0 }) {
			t.Errorf("P1.4: %s: result %d shares spare memory with the argument", name, i)
		}
		for j := i + 1; j < len(got); j++ {
			if !slices.Equal(got[j], want[j]) {
				t.Errorf("P1.4: %s: results %d and %d share memory", name, i, j)
			}
		}
	}
	again := use(slices.Clone(arg))
	if !slices.EqualFunc(again, want, slices.Equal[[]byte]) {
		t.Errorf("P1.4: %s retained memory: a second call returns something else", name)
	}
}

func TestMemoryIsNotShared(t *testing.T) {
	m := mixer(17)
	frames := slices.Concat(sealed(t, []byte("ab")), sealed(t, nil), sealed(t, m.bytes(200)), sealed(t, []byte("c")))
	args := [][]byte{nil, {0}, {172, 2}, frame.Text("some text"), frame.Text(""), frames, frames[:len(frames)-1], m.bytes(100)}
	for name, use := range uses() {
		for _, arg := range args {
			checkMemory(t, name, arg, use)
		}
	}
}

func TestUintAndTextReturnNewMemory(t *testing.T) {
	for _, get := range []func() []byte{
		func() []byte { return frame.Uint(0) },
		func() []byte { return frame.Uint(300) },
		func() []byte { return frame.Text("") },
		func() []byte { return frame.Text("some text") },
	} {
		first, second := get(), get()
		want := slices.Clone(second)
		spare := first[:cap(first)]
		for i := range spare {
			spare[i] ^= 0xff
		}
		if !slices.Equal(second, want) || !slices.Equal(get(), want) {
			t.Errorf("P1.4: two results share memory: %v, want %v", second, want)
		}
	}
}

// TestNothingPanics: any bytes, ordinary ones broken and cut among them, are read without a panic, and no length that is returned exceeds them.
func TestNothingPanics(t *testing.T) {
	m := mixer(19)
	good := slices.Concat(frame.Uint(300), sealed(t, m.bytes(40)), frame.Text("text"), sealed(t, nil))
	for range 20000 {
		b := slices.Clone(good[m.next()%uint64(len(good)):])
		for range m.next() % 4 {
			b[m.next()%uint64(len(b))] = byte(m.next() >> 30)
		}
		b = b[:m.next()%uint64(len(b)+1)]
		_, n := frame.TakeUint(b)
		s, k := frame.TakeText(b)
		p, size, _ := frame.Take(b)
		l, done := frame.Scan(b)
		if n > len(b) || k > len(b) || len(s) > k || size > len(b) || len(p) > size || done > len(b) || len(l) > done {
			t.Fatalf("P7: a length exceeds the bytes %v: %d %d %d %d", b, n, k, size, done)
		}
		if (size == 0) != (len(l) == 0) || size > done {
			t.Fatalf("P8: Take and Scan differ about %v: %d, %d", b, size, done)
		}
	}
}
