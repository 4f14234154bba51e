package wal_test

import (
	"slices"
	"testing"

	"convoy/api"
	"convoy/drive"
	"convoy/wal"
)

// work: what is asked of a log ahead of a loss of power: a payload, or a Sync or a Roll.
type work struct {
	payload    string
	sync, roll bool
}

func (m *mixer) works(n int) []work {
	var out []work
	for range n {
		switch m.below(8) {
		case 0, 1:
			out = append(out, work{sync: true})
		case 2:
			out = append(out, work{roll: true})
		default:
			out = append(out, work{payload: m.payload()})
		}
	}
	return out
}

// done: the payloads that may be there behind the loss of power, and how many of them must be.
type done struct {
	all  []string
	sure int
}

// do carries the works out until the drive is dead; the payload whose Append was rejected may be there, too.
func do(l *wal.Log, works []work) done {
	var out done
	for _, w := range works {
		e := api.OK
		switch {
		case w.sync:
			e = l.Sync()
		case w.roll:
			_, e = l.Roll()
		default:
			out.all = append(out.all, w.payload)
			e = l.Append([]byte(w.payload))
		}
		switch {
		case e == api.ErrLong:
			out.all = out.all[:len(out.all)-1]
		case e != api.OK:
			return out
		case w.sync:
			out.sure = len(out.all)
		}
	}
	return out
}

// keeps: how many loose bytes are kept: all numbers of them where they are few, else those about frames' ends and some others.
func keeps(m *mixer, loose int, last string) []int {
	var out []int
	for n := range min(loose, 12) + 1 {
		out = append(out, n, loose-n, len(framed(last))-n, loose-len(framed(last))+n)
	}
	for range 6 {
		out = append(out, m.below(loose+1))
	}
	slices.Sort(out)
	return slices.Compact(out)
}

// readBack: the payloads of a log that is opened from this number.
func readBack(t *testing.T, d *drive.Drive, from int) []string {
	t.Helper()
	_, payloads, e := wal.Open(d, from)
	if e != api.OK {
		t.Fatalf("P3.2: Open: %d", e)
	}
	var out []string
	for _, b := range payloads {
		out = append(out, string(b))
	}
	return out
}

// checkLoss loses power on a drive where d has been worked on, in many ways; it answers one of the drives that remain.
func checkLoss(t *testing.T, m *mixer, d *drive.Drive, from int, before []string, o done) *drive.Drive {
	t.Helper()
	loose := 0
	for _, name := range d.Names() {
		loose += d.Loose(name)
	}
	last := ""
	if len(o.all) > 0 {
		last = o.all[len(o.all)-1]
	}
	var after []*drive.Drive
	for _, keep := range keeps(m, loose, last) {
		c := d.Crash([]int{keep})
		got := readBack(t, c, from)
		more := len(got) - len(before)
		if more < o.sure || more > len(o.all) || !slices.Equal(got, append(slices.Clone(before), o.all[:more]...)) {
			t.Fatalf("P3.2: %d of %d loose bytes kept: %d payloads; want %d and a prefix of %d, at least %d", keep, loose, len(got), len(before), len(o.all), o.sure)
		}
		after = append(after, c)
	}
	return after[m.below(len(after))]
}

// copied: the same files again, all of which are synced.
func copied(d *drive.Drive) *drive.Drive {
	return d.Crash(nil)
}

func TestPowerIsLostAtAnyStep(t *testing.T) {
	for seed := range 60 {
		m := mixer(seed + 1)
		base, from := drive.New(), 1+m.below(3)
		for range 4 {
			before := readBack(t, base, from)
			works := m.works(4 + m.below(12))
			whole := copied(base)
			all := do(opened(t, whole, from, before...), works)
			next := checkLoss(t, &m, whole, from, before, all)
			for left := range whole.Steps() {
				d := copied(base)
				l := opened(t, d, from, before...)
				want(t, "Arm", d.Arm(left), api.OK)
				o := do(l, works)
				if !d.Dead() {
					t.Fatalf("P3.2: not dead after %d steps", d.Steps())
				}
				c := checkLoss(t, &m, d, from, before, o)
				if m.below(whole.Steps()) == 0 {
					next = c
				}
			}
			base = next
		}
	}
}

func TestATornFrameDoesNotHideWhatIsAppendedLater(t *testing.T) {
	d := drive.New()
	l := opened(t, d, 1)
	want(t, "Append", l.Append([]byte("first")), api.OK)
	want(t, "Append", l.Append([]byte("second")), api.OK)
	for keep, kept := range map[int][]string{0: nil, 9: nil, 10: {"first"}, 20: {"first"}, 21: {"first", "second"}} {
		c := d.Crash([]int{keep})
		k := opened(t, c, 1, kept...)
		want(t, "Append", k.Append([]byte("third")), api.OK)
		want(t, "Sync", k.Sync(), api.OK)
		opened(t, c.Crash(nil), 1, append(kept, "third")...)
	}
}

func TestAtMostOneSegmentIsLoose(t *testing.T) {
	m := mixer(3)
	d := drive.New()
	l := opened(t, d, 1)
	for range 200 {
		do(l, m.works(1))
		for _, n := range l.Segments() {
			if d.Loose(segmentName(n)) > 0 && n != l.Segment() {
				t.Fatalf("P3.2: segment %d has loose bytes, and the log's is %d", n, l.Segment())
			}
		}
	}
}
