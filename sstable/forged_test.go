package sstable_test

import (
	"bytes"
	"fmt"
	"slices"
	"strings"
	"testing"

	"convoy/api"
	"convoy/bloom"
	"convoy/sstable"
)

// TestEveryChangedByte: each byte becomes each other one.
func TestEveryChangedByte(t *testing.T) {
	b := built(t, []api.Entry{put("a", 300, "x"), gone("a", 2), put("b", 1, ""), put("c", 7, "yz")})
	for i := range b {
		for by := 1; by < 256; by++ {
			b[i] ^= byte(by)
			wantNoTable(t, fmt.Sprintf("byte %d changed by %x", i, by), b)
			b[i] ^= byte(by)
		}
	}
	parsed(t, b)
}

func TestEveryChangedBit(t *testing.T) {
	b := built(t, slices.Concat(numbered(40), versions("key9", 44)))
	for i := range 8 * len(b) {
		b[i/8] ^= 1 << (i % 8)
		wantNoTable(t, fmt.Sprintf("bit %d changed", i), b)
		b[i/8] ^= 1 << (i % 8)
	}
	parsed(t, b)
}

// TestBytesLeftOutAndAdded: pieces are left out, doubled or put in at every place.
func TestBytesLeftOutAndAdded(t *testing.T) {
	b := built(t, []api.Entry{put("a", 3, "x"), put("b", 2, ""), gone("c", 9), put("d", 1, "yz")})
	for i := range len(b) + 1 {
		for j := i + 1; j <= len(b); j++ {
			wantNoTable(t, fmt.Sprintf("a table without its bytes %d to %d", i, j), slices.Concat(b[:i], b[j:]))
			wantNoTable(t, fmt.Sprintf("a table with its bytes %d to %d twice", i, j), slices.Concat(b[:j], b[i:]))
		}
		for c := range 256 {
			wantNoTable(t, fmt.Sprintf("a table with a byte %d at %d", c, i), slices.Insert(slices.Clone(b), i, byte(c)))
		}
	}
	wantNoTable(t, "two tables", slices.Concat(b, b))
}

// forged: the bytes of four blocks that are a table's, but for what the change makes of them.
func forged(change func(d *draft)) []byte {
	d := drafted(chunked(slices.Concat(numbered(8), versions("key9", 4))))
	change(d)
	return d.bytes()
}

func TestADraftIsATable(t *testing.T) {
	parsed(t, forged(func(d *draft) {}))
	parsed(t, drafted([][]api.Entry{{put("a", 1, "x")}}).bytes())
}

func TestForgedParts(t *testing.T) {
	keys := modelKeys(slices.Concat(numbered(8), versions("key9", 4)))
	for what, change := range map[string]func(d *draft){
		"a filter of 9 bits a key":                       func(d *draft) { d.filter = bloom.Build(keys, 9) },
		"a filter of 11 bits a key":                      func(d *draft) { d.filter = bloom.Build(keys, 11) },
		"a filter of a key too few":                      func(d *draft) { d.filter = bloom.Build(keys[1:], 10) },
		"a filter of a key too many":                     func(d *draft) { d.filter = bloom.Build(append(keys, "z"), 10) },
		"a filter of as many keys as entries":            func(d *draft) { d.filter = bloom.Build(append(keys, "key9", "key9", "key9"), 10) },
		"a bit more in the filter":                       func(d *draft) { d.filter[0] ^= 1 },
		"a byte k that is greater":                       func(d *draft) { d.filter[len(d.filter)-1]++ },
		"a filter of no bytes":                           func(d *draft) { d.filter, d.indexAt = nil, d.filterAt+5 },
		"a filter of the byte k alone":                   func(d *draft) { d.filter, d.indexAt = []byte{6}, d.filterAt+6 },
		"an index of no blocks":                          func(d *draft) { d.count, d.rows = 0, nil },
		"an index that counts a block too few":           func(d *draft) { d.count-- },
		"an index that counts a block too many":          func(d *draft) { d.count++ },
		"an index without its last row":                  func(d *draft) { d.count, d.rows = 3, d.rows[:3] },
		"an index with its last row left out, uncounted": func(d *draft) { d.rows = d.rows[:3] },
		"an index with its last row twice":               func(d *draft) { d.count, d.rows = 5, append(d.rows, d.rows[3]) },
		"an index with two rows exchanged":               func(d *draft) { d.rows[0], d.rows[1] = d.rows[1], d.rows[0] },
		"an index with another first key":                func(d *draft) { d.rows[1].first = "key005" },
		"an index with another last key":                 func(d *draft) { d.rows[1].last = "key99" },
		"an index with a first and a last key exchanged": func(d *draft) { d.rows[0].first, d.rows[0].last = d.rows[0].last, d.rows[0].first },
		"an index with an empty first key":               func(d *draft) { d.rows[0].first = "" },
		"an index with an offset that is greater":        func(d *draft) { d.rows[2].offset++ },
		"an index with an offset far away":               func(d *draft) { d.rows[2].offset = 1 << 62 },
		"an index with a length that is less":            func(d *draft) { d.rows[3].size-- },
		"an index with a length that is greater":         func(d *draft) { d.rows[3].size++ },
		"an index with the lengths of the payloads":      func(d *draft) { d.rows[0].size -= 5 },
		"a filter's offset that is less":                 func(d *draft) { d.filterAt-- },
		"a filter's offset that is greater":              func(d *draft) { d.filterAt++ },
		"a filter's offset of 0":                         func(d *draft) { d.filterAt = 0 },
		"a filter's offset of the last block":            func(d *draft) { d.filterAt = d.rows[3].offset },
		"a filter's offset of the index":                 func(d *draft) { d.filterAt = d.indexAt },
		"a filter's offset far away":                     func(d *draft) { d.filterAt = 1<<32 - 1 },
		"a filter's offset of 2^31":                      func(d *draft) { d.filterAt = 1 << 31 },
		"an index's offset that is less":                 func(d *draft) { d.indexAt-- },
		"an index's offset that is greater":              func(d *draft) { d.indexAt++ },
		"an index's offset of 0":                         func(d *draft) { d.indexAt = 0 },
		"an index's offset far away":                     func(d *draft) { d.indexAt = 1<<32 - 1 },
		"offsets that are exchanged":                     func(d *draft) { d.filterAt, d.indexAt = d.indexAt, d.filterAt },
		"another end":                                    func(d *draft) { d.end = "cvt2" },
		"an end of capitals":                             func(d *draft) { d.end = "CVT1" },
		"an end that is turned round":                    func(d *draft) { d.end = "1tvc" },
		"a shorter end":                                  func(d *draft) { d.end = "cvt" },
		"no end":                                         func(d *draft) { d.end = "" },
		"a longer end":                                   func(d *draft) { d.end = "cvt1\n" },
		"a block less":                                   func(d *draft) { d.blocks = d.blocks[:3] },
		"no blocks":                                      func(d *draft) { d.blocks = nil },
		"two blocks exchanged":                           func(d *draft) { d.blocks[0], d.blocks[1] = d.blocks[1], d.blocks[0] },
		"a block of no bytes that nothing else tells of": func(d *draft) { d.blocks = append(d.blocks, nil) },
		"a block of a number and nothing behind it":      func(d *draft) { d.blocks[3] = []byte{3} },
		"a block with a byte behind its last entry":      func(d *draft) { d.blocks[3] = append(d.blocks[3], 0) },
		"a block that is cut off":                        func(d *draft) { d.blocks[3] = d.blocks[3][:len(d.blocks[3])-1] },
	} {
		wantNoTable(t, what, forged(change))
	}
}

// TestForgedBlocks: all else is as these blocks ask for.
func TestForgedBlocks(t *testing.T) {
	four, many := numbered(4), numbered(84)
	a1, a2, b1 := put("a", 1, "x"), put("a", 2, "y"), put("b", 1, "z")
	for what, blocks := range map[string][][]api.Entry{
		"no block":                                 nil,
		"a block without entries":                  {{}},
		"a block without entries in front":         {{}, four[:3], four[3:]},
		"a block without entries in between":       {four[:3], {}, four[3:]},
		"a block without entries at the end":       {four[:3], four[3:], {}},
		"a block of four entries":                  {four},
		"blocks of two entries":                    {four[:2], four[2:]},
		"a block of one entry, one of three":       {four[:1], four[1:]},
		"blocks of one entry":                      {four[:1], four[1:2], four[2:3]},
		"29 blocks for 84 entries":                 append(chunked(many[:81]), many[81:82], many[82:]),
		"85 entries":                               chunked(numbered(85)),
		"200 entries":                              chunked(numbered(200)),
		"b ahead of a":                             {{b1, a1}},
		"an older one ahead of a newer one":        {{a1, a2}},
		"an entry twice":                           {{a1, a1}},
		"an entry twice, with another value":       {{a1, put("a", 1, "y")}},
		"b ahead of a in the next block":           {{put("", 1, ""), a2, b1}, {a1}},
		"an older one ahead of a newer one, ditto": {{put("", 2, ""), put("", 1, ""), a1}, {a2}},
		"an entry in two blocks":                   {{put("", 1, ""), a2, a1}, {a1}},
		"a number of 0":                            {{put("a", 0, "x")}},
		"a number above the greatest":              {{put("a", 1<<62+1, "x")}},
		"a number of 2^63":                         {{put("a", -1<<63, "x")}},
		"a number of 2^64 - 1":                     {{put("a", -1, "x")}},
		"a key of one byte too many":               {{put(strings.Repeat("k", 65), 1, "x")}},
		"a value of one byte too many":             {{put("a", 1, strings.Repeat("v", 1025))}},
		"a deletion with a value":                  {{{Key: "a", Seq: 1, Del: true, Value: "x"}}},
		"a number of 0 behind other entries":       {{a1, b1, put("c", 0, "")}},
	} {
		wantNoTable(t, what, drafted(blocks).bytes())
	}
	parsed(t, drafted([][]api.Entry{{a2, a1, b1}}).bytes())
}

// withPayload: a table of one block with this payload, in which all else is as for the entries a 1 and, if there are two, b 1.
func withPayload(payload []byte, keys ...string) []byte {
	size := len(modelFrame(payload))
	d := &draft{blocks: [][]byte{payload}, filter: bloom.Build(keys, 10), count: 1, filterAt: size, end: "cvt1"}
	d.rows = []row{{first: keys[0], last: keys[len(keys)-1], size: size}}
	d.indexAt = size + len(modelFrame(d.filter))
	return d.bytes()
}

func TestForgedEntries(t *testing.T) {
	parsed(t, withPayload([]byte("\x01a\x01\x00\x01x"), "a"))
	parsed(t, withPayload([]byte("\x01a\x01\x01\x00"), "a"))
	for what, payload := range map[string]string{
		"no entry":                            "",
		"a byte 2 for Del":                    "\x01a\x01\x02\x01x",
		"a byte 128 for Del":                  "\x01a\x01\x80\x01x",
		"a byte 255 for Del":                  "\x01a\x01\xff\x00",
		"a byte 1 for Del, with a value":      "\x01a\x01\x01\x01x",
		"a Seq that is not in as few bytes":   "\x01a\x81\x00\x00\x01x",
		"a Seq above 2^64 - 1":                "\x01a\x80\x80\x80\x80\x80\x80\x80\x80\x80\x02\x00\x01x",
		"a Key's length in too many bytes":    "\x81\x00a\x01\x00\x01x",
		"a Value's length in too many bytes":  "\x01a\x01\x00\x81\x00x",
		"no Value":                            "\x01a\x01\x00",
		"a Value that is cut off":             "\x01a\x01\x00\x02x",
		"a Value of 2^64 - 1 bytes":           "\x01a\x01\x00\xff\xff\xff\xff\xff\xff\xff\xff\xff\x01x",
		"neither Del nor Value":               "\x01a\x01",
		"a Key alone":                         "\x01a",
		"a Key that is cut off":               "\x02a",
		"a Key's length alone":                "\x01",
		"a Key's length that does not end":    "\x81",
		"a byte 0 behind the entry":           "\x01a\x01\x00\x01x\x00",
		"half an entry behind the entry":      "\x01a\x01\x00\x01x\x01b\x01",
		"the entry twice":                     "\x01a\x01\x00\x01x\x01a\x01\x00\x01x",
		"no bytes where the Key's are":        "\x00\x01\x00\x01x",
		"another Key than the index tells":    "\x01c\x01\x00\x01x",
		"no Seq: Del and Value alone":         "\x01a\x00\x01x",
		"entries behind which others follow":  "\x01a\x04\x00\x00\x01a\x03\x00\x00\x01a\x02\x00\x00\x01a\x01\x00\x00",
		"a payload of bytes that are all 255": strings.Repeat("\xff", 100),
	} {
		wantNoTable(t, what, withPayload([]byte(payload), "a"))
	}
	wantNoTable(t, "a filter whose keys fall", withPayload([]byte("\x01b\x01\x00\x00\x01a\x01\x00\x00"), "b", "a"))
}

// reframed: a table of one entry in which each frame is written as the function says.
func reframed(write func(n int, payload []byte) []byte) []byte {
	d := drafted([][]api.Entry{{put("a", 1, "x")}})
	block, filter := write(0, d.blocks[0]), write(1, d.filter)
	d.rows[0].size, d.filterAt, d.indexAt = len(block), len(block), len(block)+len(filter)
	return slices.Concat(block, filter, write(2, d.index()), d.footer())
}

// TestForgedFrames: offsets and lengths tell the truth of frames that are none, or of too many.
func TestForgedFrames(t *testing.T) {
	parsed(t, reframed(func(n int, payload []byte) []byte { return modelFrame(payload) }))
	for what, forge := range map[string]func(frame []byte) []byte{
		"a length in too many bytes": func(frame []byte) []byte {
			return slices.Concat([]byte{frame[0] | 128, 0}, frame[1:])
		},
		"a wrong checksum":      func(frame []byte) []byte { frame[1] ^= 1; return frame },
		"no checksum":           func(frame []byte) []byte { return slices.Delete(frame, 1, 5) },
		"an empty frame ahead":  func(frame []byte) []byte { return slices.Concat(make([]byte, 5), frame) },
		"an empty frame behind": func(frame []byte) []byte { return slices.Concat(frame, make([]byte, 5)) },
		"a byte ahead":          func(frame []byte) []byte { return slices.Concat([]byte{0}, frame) },
		"a byte behind":         func(frame []byte) []byte { return slices.Concat(frame, []byte{0}) },
		"the frame twice":       func(frame []byte) []byte { return slices.Concat(frame, frame) },
		"no frame":              func(frame []byte) []byte { return nil },
	} {
		for which := range 3 {
			wantNoTable(t, fmt.Sprintf("%s, frame %d", what, which), reframed(func(n int, payload []byte) []byte {
				frame := modelFrame(payload)
				if n == which {
					return forge(frame)
				}
				return frame
			}))
		}
	}
}

// TestAnyBytes: P7 too: whatever they are, Parse ends.
func TestAnyBytes(t *testing.T) {
	wantNoTable(t, "nil", nil)
	wantNoTable(t, "no bytes", []byte{})
	wantNoTable(t, "the end alone", []byte("cvt1"))
	for n := range 30 {
		wantNoTable(t, fmt.Sprintf("%d bytes 0", n), make([]byte, n))
		wantNoTable(t, fmt.Sprintf("%d bytes 255", n), bytes.Repeat([]byte{255}, n))
		wantNoTable(t, fmt.Sprintf("%d bytes 0 and the end", n), append(make([]byte, n), "cvt1"...))
	}
	for _, at := range []string{"\x00\x00\x00\x00", "\x00\x00\x00\x04", "\xff\xff\xff\x07", "\xff\xff\xff\xff"} {
		footer := at + at + "cvt1"
		wantNoTable(t, "2^26 bytes 0", append(make([]byte, 1<<26), footer...))
		wantNoTable(t, "many large frames", append(bytes.Repeat(modelFrame(make([]byte, 4096)), 1<<13), footer...))
		wantNoTable(t, "many small frames", append(bytes.Repeat(modelFrame(modelBlock(put("a", 1, "x"))), 1<<16), footer...))
	}
	m := mixer(7)
	for range 30000 {
		b := make([]byte, m.below(60))
		for i := range b {
			b[i] = byte(m.below(256) & m.below(256))
		}
		wantNoTable(t, shown(b), b)
		wantNoTable(t, shown(b)+" and a footer", slices.Concat(b, []byte{byte(len(b)), 0, 0, 0, byte(len(b)), 0, 0, 0}, []byte("cvt1")))
	}
}

// TestPieces: of two tables, put together at every place, only what is one of them again is a table.
func TestPieces(t *testing.T) {
	one, other := built(t, numbered(7)), built(t, versions("key9", 5))
	for i := range one {
		for j := range other {
			b := slices.Concat(one[:i], other[j:])
			want := api.ErrTable
			if bytes.Equal(b, one) || bytes.Equal(b, other) {
				want = api.OK
			}
			if _, e := sstable.Parse(b); e != want {
				t.Fatalf("P6.1: %d bytes of a table and another one from byte %d on: %d, want %d", i, j, e, want)
			}
		}
	}
}
