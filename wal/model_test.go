package wal_test

import (
	"fmt"
	"math"
	"slices"
	"strings"
	"testing"

	"convoy/api"
	"convoy/drive"
	"convoy/wal"
)

// model: the segments of a drive and a log on them as the chapter tells it, written once more in the plainest form.
type model struct {
	segments []modelSegment // in increasing order of their numbers
	steps    int
	left     int // -1 while the drive is not armed
	current  int
	dead     bool
}

type modelSegment struct {
	number        int
	synced, loose string
	frames        []modelFrame
}

type modelFrame struct {
	payload string
	end     int
}

func (m *model) at(number int) int {
	return slices.IndexFunc(m.segments, func(s modelSegment) bool { return s.number == number })
}

func (m *model) numbers() []int {
	var out []int
	for _, s := range m.segments {
		out = append(out, s.number)
	}
	return out
}

func (m *model) step() api.Errno {
	if m.left == 0 {
		m.dead = true
		return api.ErrDead
	}
	m.steps++
	if m.left > 0 {
		m.left--
	}
	return api.OK
}

func (m *model) open(from int) ([]string, api.Errno) {
	if from < 1 || from > 999999 {
		return nil, api.ErrRange
	}
	m.current, m.dead = from, false
	var out []string
	for _, s := range m.segments {
		if s.number >= m.current {
			m.current = s.number + 1
		}
		for _, f := range s.frames {
			if s.number >= from && f.end <= len(s.synced+s.loose) {
				out = append(out, f.payload)
			}
		}
	}
	return out, api.OK
}

func (m *model) append(payload string) api.Errno {
	if len(payload) > 4096 {
		return api.ErrLong
	}
	if m.dead {
		return api.ErrDead
	}
	f := framed(payload)
	i := m.at(m.current)
	if i >= 0 && len(m.segments[i].synced+m.segments[i].loose+f) > 1024 {
		if _, e := m.roll(); e != api.OK {
			return e
		}
	}
	if m.current == 1000000 {
		return api.ErrFull
	}
	if e := m.step(); e != api.OK {
		return e
	}
	if m.at(m.current) < 0 {
		m.segments = append(m.segments, modelSegment{number: m.current})
	}
	s := &m.segments[m.at(m.current)]
	s.loose += f
	s.frames = append(s.frames, modelFrame{payload, len(s.synced + s.loose)})
	return api.OK
}

func (m *model) sync() api.Errno {
	i := m.at(m.current)
	switch {
	case m.dead:
		return api.ErrDead
	case i < 0 || m.segments[i].loose == "":
		return api.OK
	}
	e := m.step()
	if s := &m.segments[i]; e == api.OK {
		s.synced, s.loose = s.synced+s.loose, ""
	}
	return e
}

func (m *model) roll() (int, api.Errno) {
	if e := m.sync(); e != api.OK {
		return 0, e
	}
	if m.current < 1000000 {
		m.current++
	}
	return m.current, api.OK
}

func (m *model) drop(before int) api.Errno {
	if m.dead {
		return api.ErrDead
	}
	for _, n := range m.numbers() {
		if n < before && n != m.current {
			if e := m.step(); e != api.OK {
				return e
			}
			i := m.at(n)
			m.segments = slices.Delete(m.segments, i, i+1)
		}
	}
	return api.OK
}

// crash: each segment with loose bytes keeps as many of them.
func (m *model) crash(keep int) {
	for i := range m.segments {
		s := &m.segments[i]
		s.synced += s.loose[:min(keep, len(s.loose))]
		s.loose = ""
		s.frames = slices.DeleteFunc(s.frames, func(f modelFrame) bool { return f.end > len(s.synced) })
	}
	m.steps, m.left = 0, -1
}

// pair: a log on a drive, and the model that has had the same calls.
type pair struct {
	d *drive.Drive
	l *wal.Log
	m *model
}

// call: one call on a pair; it answers what the log and what the model returned, as texts.
type call struct {
	text string
	on   func(p *pair) (string, string)
}

func appendCall(payload string) call {
	return call{fmt.Sprintf("Append(%d bytes)", len(payload)), func(p *pair) (string, string) {
		return fmt.Sprint(p.l.Append([]byte(payload))), fmt.Sprint(p.m.append(payload))
	}}
}

func syncCall() call {
	return call{"Sync", func(p *pair) (string, string) {
		return fmt.Sprint(p.l.Sync()), fmt.Sprint(p.m.sync())
	}}
}

func rollCall() call {
	return call{"Roll", func(p *pair) (string, string) {
		return fmt.Sprint(p.l.Roll()), fmt.Sprint(p.m.roll())
	}}
}

func dropCall(before int) call {
	return call{fmt.Sprintf("Drop(%d)", before), func(p *pair) (string, string) {
		return fmt.Sprint(p.l.Drop(before)), fmt.Sprint(p.m.drop(before))
	}}
}

// armCall: of a dead drive it is an error, and changes nothing.
func armCall(n int) call {
	return call{fmt.Sprintf("Arm(%d)", n), func(p *pair) (string, string) {
		if p.d.Arm(n) == api.OK {
			p.m.left = n
		}
		return "", ""
	}}
}

// crashCall: power is lost, and then a log is opened.
func crashCall(keep, from int) call {
	o := openCall(from)
	return call{fmt.Sprintf("Crash(%d); %s", keep, o.text), func(p *pair) (string, string) {
		p.d = p.d.Crash(slices.Repeat([]int{keep}, 256))
		p.m.crash(keep)
		return o.on(p)
	}}
}

// openCall: a log is opened anew; from a number that none can be opened from, the one before it is kept.
func openCall(from int) call {
	return call{fmt.Sprintf("Open(%d)", from), func(p *pair) (string, string) {
		l, payloads, e := wal.Open(p.d, from)
		texts, code := p.m.open(from)
		if e == api.OK {
			p.l = l
		}
		return fmt.Sprintf("%t %.40q %d", l != nil, payloads, e), fmt.Sprintf("%t %.40q %d", code == api.OK, texts, code)
	}}
}

// difference tells in what the log and its drive differ from the model, or nothing.
func (p *pair) difference() string {
	if got := p.l.Segment(); got != p.m.current {
		return fmt.Sprintf("Segment: %d, want %d", got, p.m.current)
	}
	if got := p.l.Segments(); !slices.Equal(got, p.m.numbers()) {
		return fmt.Sprintf("Segments: %v, want %v", got, p.m.numbers())
	}
	if p.d.Steps() != p.m.steps || p.d.Dead() != (p.m.left == 0) {
		return fmt.Sprintf("%d steps, dead %t; want %d, %t", p.d.Steps(), p.d.Dead(), p.m.steps, p.m.left == 0)
	}
	if got := p.d.Names(); len(got) != len(p.m.segments) {
		return fmt.Sprintf("files: %v", got)
	}
	for _, s := range p.m.segments {
		name := segmentName(s.number)
		if b, e := p.d.Read(name); e != api.OK || string(b) != s.synced+s.loose || p.d.Loose(name) != len(s.loose) {
			return fmt.Sprintf("%s: %d bytes, %d loose, %d; want %d, %d loose", name, len(b), p.d.Loose(name), e, len(s.synced+s.loose), len(s.loose))
		}
	}
	return ""
}

func texts(calls []call) string {
	var out []string
	for _, c := range calls {
		out = append(out, c.text)
	}
	return strings.Join(out, "; ")
}

// run makes the calls one after another on a new drive; the log must agree with the model after each of them.
func run(t *testing.T, calls []call) {
	t.Helper()
	p := &pair{d: drive.New(), m: &model{left: -1}}
	for i, c := range calls {
		if got, want := c.on(p); got != want {
			t.Fatalf("P3.1: %s: %s, want %s", texts(calls[:i+1]), got, want)
		}
		if s := p.difference(); s != "" {
			t.Fatalf("P3.1: after %s: %s", texts(calls[:i+1]), s)
		}
	}
}

func TestEveryShortSequence(t *testing.T) {
	alphabet := []call{
		appendCall(""), appendCall(filled(24)), appendCall(filled(1000)), appendCall(strings.Repeat("x", 4097)),
		syncCall(), rollCall(), dropCall(2), dropCall(math.MaxInt), armCall(0), armCall(1), armCall(2),
		crashCall(0, 1), crashCall(1005, 2), openCall(1), openCall(0),
	}
	var grow func(calls []call)
	grow = func(calls []call) {
		if len(calls) == 5 {
			run(t, calls)
			return
		}
		for _, c := range alphabet {
			grow(append(calls[:len(calls):len(calls)], c))
		}
	}
	for _, from := range []int{1, 999999} {
		grow([]call{openCall(from)})
	}
}

// mixer yields a fixed series of numbers (xorshift), so that every run of the tests is the same.
type mixer uint64

func (m *mixer) below(n int) int {
	*m ^= *m << 13
	*m ^= *m >> 7
	*m ^= *m << 17
	return int(uint64(*m) >> 11 % uint64(n))
}

func (m *mixer) text(n int) string {
	b := make([]byte, n)
	for i := range b {
		b[i] = byte(m.below(256))
	}
	return string(b)
}

// payload: mostly short, at times as long as a segment, seldom as long as a payload may be.
func (m *mixer) payload() string {
	switch m.below(12) {
	case 0:
		return m.text(1000 + m.below(30))
	case 1:
		return m.text(4090 + m.below(8))
	case 2, 3, 4:
		return m.text(m.below(600))
	}
	return m.text(m.below(9))
}

// rubbish: frames, torn ones, and bytes of any values.
func (m *mixer) rubbish() string {
	s := ""
	for range m.below(5) {
		f := framed(m.payload())
		switch m.below(4) {
		case 0:
			f = f[:m.below(len(f))]
		case 1:
			f = m.text(m.below(20))
		}
		s += f
	}
	return s
}

func (m *mixer) call() call {
	switch m.below(24) {
	case 0, 1, 2, 3:
		return syncCall()
	case 4, 5:
		return rollCall()
	case 6:
		return dropCall(m.below(20))
	case 7:
		return armCall(m.below(40))
	case 8, 9:
		return crashCall(m.below(40)*m.below(40), 1+m.below(12))
	case 10:
		return openCall(m.below(9))
	}
	return appendCall(m.payload())
}

func TestLongSequences(t *testing.T) {
	for seed := range 300 {
		m := mixer(seed + 1)
		calls := []call{openCall(1 + m.below(2)*999990)}
		for range 80 {
			calls = append(calls, m.call())
		}
		run(t, calls)
	}
}
