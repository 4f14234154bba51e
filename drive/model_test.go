package drive_test

import (
	"fmt"
	"slices"
	"strings"
	"testing"

	"convoy/api"
	"convoy/drive"
)

// model: a drive as the chapter tells it, written once more in the plainest form.
type model struct {
	files []modelFile
	steps int
	left  int // -1 while it is not armed
}

type modelFile struct {
	name, synced, loose string
}

func newModel() *model {
	return &model{left: -1}
}

func modelName(name string) bool {
	return len(name) >= 1 && len(name) <= 32 && strings.Trim(name, "abcdefghijklmnopqrstuvwxyz0123456789-.") == ""
}

func (m *model) at(name string) int {
	return slices.IndexFunc(m.files, func(f modelFile) bool { return f.name == name })
}

// do carries out what is asked of an existing file, unless an error forbids it.
func (m *model) do(name string, what func(i int)) api.Errno {
	i := m.at(name)
	switch {
	case !modelName(name):
		return api.ErrName
	case i < 0:
		return api.ErrNone
	case m.left == 0:
		return api.ErrDead
	}
	m.count()
	what(i)
	return api.OK
}

func (m *model) count() {
	m.steps++
	if m.left > 0 {
		m.left--
	}
}

func (m *model) remove(i int) {
	m.files = slices.Delete(slices.Clone(m.files), i, i+1)
}

func (m *model) appendTo(name, b string) api.Errno {
	i := m.at(name)
	size := 0
	if i >= 0 {
		size = len(m.files[i].synced) + len(m.files[i].loose)
	}
	switch {
	case !modelName(name):
		return api.ErrName
	case i < 0 && len(m.files) == 256, size+len(b) > 262144:
		return api.ErrFull
	case m.left == 0:
		return api.ErrDead
	}
	m.count()
	if i < 0 {
		m.files = append(m.files, modelFile{name: name, loose: b})
	} else {
		m.files[i].loose += b
	}
	return api.OK
}

func (m *model) syncOf(name string) api.Errno {
	return m.do(name, func(i int) {
		m.files[i].synced += m.files[i].loose
		m.files[i].loose = ""
	})
}

func (m *model) rename(from, to string) api.Errno {
	if !modelName(to) {
		return api.ErrName
	}
	return m.do(from, func(i int) {
		f := m.files[i]
		m.remove(i)
		if j := m.at(to); j >= 0 {
			m.remove(j)
		}
		f.name = to
		m.files = append(m.files, f)
	})
}

func (m *model) deleteOf(name string) api.Errno {
	return m.do(name, m.remove)
}

func (m *model) arm(n int) api.Errno {
	switch {
	case n < 0:
		return api.ErrRange
	case m.left == 0:
		return api.ErrDead
	}
	m.left = n
	return api.OK
}

func (m *model) names() []string {
	var out []string
	for _, f := range m.files {
		out = append(out, f.name)
	}
	slices.Sort(out)
	return out
}

func (m *model) crash(keeps []int) *model {
	out := newModel()
	i := 0
	for _, name := range m.names() {
		f := m.files[m.at(name)]
		keep := 0
		if f.loose != "" && i < len(keeps) && keeps[i] > 0 {
			keep = keeps[i]
		}
		if keep > len(f.loose) {
			keep = len(f.loose)
		}
		if f.loose != "" {
			i++
		}
		out.files = append(out.files, modelFile{name: name, synced: f.synced + f.loose[:keep]})
	}
	return out
}

// pair: a drive, and the model that has had the same calls.
type pair struct {
	d *drive.Drive
	m *model
}

func newPair() pair {
	return pair{drive.New(), newModel()}
}

// call: one call on a pair; it answers what the drive and what the model returned, and the pair with which to go on.
type call struct {
	text string
	on   func(p pair) (api.Errno, api.Errno, pair)
}

func appendCall(name, b string) call {
	return call{fmt.Sprintf("Append(%q, %d bytes)", name, len(b)), func(p pair) (api.Errno, api.Errno, pair) {
		return p.d.Append(name, []byte(b)), p.m.appendTo(name, b), p
	}}
}

func syncCall(name string) call {
	return call{fmt.Sprintf("Sync(%q)", name), func(p pair) (api.Errno, api.Errno, pair) {
		return p.d.Sync(name), p.m.syncOf(name), p
	}}
}

func renameCall(from, to string) call {
	return call{fmt.Sprintf("Rename(%q, %q)", from, to), func(p pair) (api.Errno, api.Errno, pair) {
		return p.d.Rename(from, to), p.m.rename(from, to), p
	}}
}

func deleteCall(name string) call {
	return call{fmt.Sprintf("Delete(%q)", name), func(p pair) (api.Errno, api.Errno, pair) {
		return p.d.Delete(name), p.m.deleteOf(name), p
	}}
}

func armCall(n int) call {
	return call{fmt.Sprintf("Arm(%d)", n), func(p pair) (api.Errno, api.Errno, pair) {
		return p.d.Arm(n), p.m.arm(n), p
	}}
}

func crashCall(keeps ...int) call {
	return call{fmt.Sprintf("Crash(%v)", keeps), func(p pair) (api.Errno, api.Errno, pair) {
		return api.OK, api.OK, pair{p.d.Crash(keeps), p.m.crash(keeps)}
	}}
}

func texts(calls []call) string {
	var out []string
	for _, c := range calls {
		out = append(out, c.text)
	}
	return strings.Join(out, "; ")
}

// difference tells in what the drive and the model differ, or nothing.
func (p pair) difference(others ...string) string {
	names := p.m.names()
	if got := p.d.Names(); !slices.Equal(got, names) {
		return fmt.Sprintf("Names: %q, want %q", got, names)
	}
	if got := p.d.Steps(); got != p.m.steps {
		return fmt.Sprintf("Steps: %d, want %d", got, p.m.steps)
	}
	if got := p.d.Dead(); got != (p.m.left == 0) {
		return fmt.Sprintf("Dead: %t", got)
	}
	for _, name := range append(names, others...) {
		if s := p.fileDifference(name); s != "" {
			return s
		}
	}
	return ""
}

func (p pair) fileDifference(name string) string {
	var f modelFile
	want := api.OK
	if i := p.m.at(name); i >= 0 {
		f = p.m.files[i]
	} else if modelName(name) {
		want = api.ErrNone
	} else {
		want = api.ErrName
	}
	whole := f.synced + f.loose
	if b, e := p.d.Read(name); string(b) != whole || e != want {
		return fmt.Sprintf("Read(%q): %d bytes, %d, want %d bytes, %d", name, len(b), e, len(whole), want)
	}
	if got := p.d.Size(name); got != len(whole) {
		return fmt.Sprintf("Size(%q): %d, want %d", name, got, len(whole))
	}
	if got := p.d.Loose(name); got != len(f.loose) {
		return fmt.Sprintf("Loose(%q): %d, want %d", name, got, len(f.loose))
	}
	return ""
}

// run makes the calls on a pair, one after another; every drive that comes about must agree with its model after each of them, that it crashed into another one or not.
func run(t *testing.T, p pair, calls []call) {
	t.Helper()
	all := []pair{p}
	for i, c := range calls {
		got, want, next := c.on(p)
		if got != want {
			t.Fatalf("P2.1: %s: %d, want %d", texts(calls[:i+1]), got, want)
		}
		if next.d == nil || next.d != p.d && slices.ContainsFunc(all, func(o pair) bool { return o.d == next.d }) {
			t.Fatalf("P2.1: %s: no new drive", texts(calls[:i+1]))
		}
		if next.d != p.d {
			all = append(all, next)
		}
		p = next
		for k, o := range all {
			if s := o.difference("a", "b", "c", "", "A"); s != "" {
				t.Fatalf("P2.1, P2.2: drive %d of %d after %s: %s", k+1, len(all), texts(calls[:i+1]), s)
			}
		}
	}
}

func TestEveryShortSequence(t *testing.T) {
	alphabet := []call{
		appendCall("a", "12"), appendCall("a", ""), appendCall("b", "345"), appendCall("A", "6"),
		syncCall("a"), syncCall("b"),
		renameCall("a", "b"), renameCall("b", "a"), renameCall("a", "a"),
		deleteCall("a"), deleteCall("b"),
		armCall(0), armCall(1), armCall(2), armCall(-1),
		crashCall(), crashCall(1), crashCall(0, 2),
	}
	var grow func(calls []call)
	grow = func(calls []call) {
		if len(calls) == 4 {
			run(t, newPair(), calls)
			return
		}
		for _, c := range alphabet {
			grow(append(calls[:len(calls):len(calls)], c))
		}
	}
	grow(nil)
}

// mixer yields a fixed series of numbers (xorshift), so that every run of the tests is the same.
type mixer uint64

func (m *mixer) below(n int) int {
	*m ^= *m << 13
	*m ^= *m >> 7
	*m ^= *m << 17
	return int(uint64(*m) >> 11 % uint64(n))
}

func (m *mixer) name() string {
	names := []string{"a", "b", "c", "d-1", "wal-000001", "current.tmp", "-", ".", "", "A", "a_b", "d/e"}
	return names[min(m.below(len(names)+4), len(names)-1-m.below(6))]
}

func (m *mixer) text() string {
	b := make([]byte, m.below(5)*m.below(5)*m.below(5))
	for i := range b {
		b[i] = byte(m.below(256))
	}
	return string(b)
}

func (m *mixer) call() call {
	switch m.below(16) {
	case 0, 1, 2, 3, 4, 5:
		return appendCall(m.name(), m.text())
	case 6, 7, 8:
		return syncCall(m.name())
	case 9, 10:
		return renameCall(m.name(), m.name())
	case 11:
		return deleteCall(m.name())
	case 12:
		return armCall(m.below(30) - 1)
	case 13:
		return appendCall(m.name(), strings.Repeat("x", 60000+m.below(9000)))
	}
	keeps := make([]int, m.below(6))
	for i := range keeps {
		keeps[i] = m.below(40) - 5
	}
	return crashCall(keeps...)
}

func TestLongSequences(t *testing.T) {
	for seed := range 120 {
		m := mixer(seed + 1)
		calls := make([]call, 60)
		for i := range calls {
			calls[i] = m.call()
		}
		run(t, newPair(), calls)
	}
}
