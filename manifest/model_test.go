package manifest_test

import (
	"fmt"
	"maps"
	"slices"
	"strings"
	"testing"

	"convoy/api"
	"convoy/drive"
	"convoy/manifest"
)

// model: a drive and a manifest on it as the chapter tells them, written once more in the plainest form.
type model struct {
	files    map[string]modelFile
	steps    int
	left     int // -1 while the drive is not armed
	v        api.Version
	number   int
	switched bool
	dead     bool
}

type modelFile struct {
	synced, loose string
	edits         []modelEdit // if it is a log
}

type modelEdit struct {
	edit api.Edit
	end  int // of its frame
}

func (f modelFile) whole() string {
	return f.synced + f.loose
}

// modelFit: what comes of an edit, and whether it fits.
func modelFit(v api.Version, e api.Edit) (api.Version, bool) {
	out := version(v.Next, v.Log, v.Seq, v.Tables...)
	for i, n := range e.Drop {
		if slices.Contains(e.Drop[:i], n) || !slices.ContainsFunc(v.Tables, func(t api.Table) bool { return t.Number == n }) {
			return api.Version{}, false
		}
	}
	out.Tables = slices.DeleteFunc(slices.Clone(v.Tables), func(t api.Table) bool { return slices.Contains(e.Drop, t.Number) })
	out.Tables = append(out.Tables, e.Add...)
	slices.SortFunc(out.Tables, func(a, b api.Table) int { return (a.Level-b.Level)*2000000 + a.Number - b.Number })
	for _, p := range []struct {
		number *int
		n      int
	}{{&out.Next, e.Next}, {&out.Log, e.Log}, {&out.Seq, e.Seq}} {
		if p.n != 0 && p.n < *p.number {
			return api.Version{}, false
		}
		*p.number = max(*p.number, p.n)
	}
	return out, isModelVersion(out)
}

func isModelVersion(v api.Version) bool {
	if v.Next > 1000000 || v.Log > 999999 || v.Seq > 1<<62 {
		return false
	}
	for i, t := range v.Tables {
		for _, other := range v.Tables[:i] {
			if other.Number == t.Number {
				return false
			}
		}
		if t.Number < 1 || t.Number > 999999 || t.Number >= v.Next || t.Level < 0 || t.Level > 1 || t.First > t.Last || len(t.First) > 64 || len(t.Last) > 64 {
			return false
		}
	}
	return true
}

func (m *model) names() []string {
	return slices.Sorted(maps.Keys(m.files))
}

func (m *model) open() {
	m.v, m.number, m.switched, m.dead = version(1, 1, 0), 1, false, false
	for n := 1; n <= 99; n++ {
		if _, ok := m.files[logName(n)]; ok {
			m.number = n + 1
		}
	}
	current := m.files["current"].whole()
	if !strings.HasPrefix(current, "manifest-") {
		return
	}
	log := m.files[current]
	for _, e := range log.edits {
		v, ok := modelFit(m.v, e.edit)
		if e.end > len(log.whole()) || !ok {
			return
		}
		m.v = v
	}
}

// step: one of the drive's; false if it is rejected.
func (m *model) step(do func()) bool {
	if m.dead || m.left == 0 {
		m.dead = true
		return false
	}
	m.steps++
	if m.left > 0 {
		m.left--
	}
	do()
	return true
}

func (m *model) append(name string, edits ...api.Edit) {
	m.step(func() {
		f := m.files[name]
		for _, e := range edits {
			f.loose += logOf(e)
			f.edits = append(f.edits, modelEdit{e, len(f.whole())})
		}
		m.files[name] = f
	})
}

func (m *model) sync(name string) {
	m.step(func() {
		f := m.files[name]
		f.synced, f.loose = f.whole(), ""
		m.files[name] = f
	})
}

func (m *model) delete(name string) {
	m.step(func() { delete(m.files, name) })
}

func (m *model) change(e api.Edit) api.Errno {
	v, ok := modelFit(m.v, e)
	switch {
	case !ok:
		return api.ErrManifest
	case len(payloadOf(e)) > 4096:
		return api.ErrLong
	case m.dead:
		return api.ErrDead
	}
	log := logName(m.number)
	if m.switched {
		m.append(log, e)
		m.sync(log)
	} else {
		m.switchTo(log, v)
	}
	if m.dead {
		return api.ErrDead
	}
	m.v, m.switched = v, true
	return api.OK
}

func (m *model) switchTo(log string, v api.Version) {
	names := m.names()
	if slices.Contains(names, "current.tmp") {
		m.delete("current.tmp")
	}
	edits := []api.Edit{{Next: v.Next, Log: v.Log, Seq: v.Seq}}
	for _, t := range v.Tables {
		edits = append(edits, add(t))
	}
	m.append(log, edits...)
	m.sync(log)
	m.step(func() { m.files["current.tmp"] = modelFile{loose: log} })
	m.sync("current.tmp")
	m.step(func() { m.files["current"] = m.files["current.tmp"]; delete(m.files, "current.tmp") })
	for _, name := range names {
		if strings.HasPrefix(name, "manifest-") {
			m.delete(name)
		}
	}
}

// crash: the files with loose bytes keep as many of them.
func (m *model) crash(keep int) {
	for name, f := range m.files {
		f.synced += f.loose[:min(keep, len(f.loose))]
		f.loose = ""
		f.edits = slices.Clone(f.edits)
		m.files[name] = f
	}
	m.steps, m.left = 0, -1
}

func (m *model) orphans() []string {
	var out []string
	for _, name := range m.names() {
		live := slices.ContainsFunc(m.v.Tables, func(t api.Table) bool { return name == fmt.Sprintf("sst-%06d", t.Number) })
		isLog := strings.HasPrefix(name, "manifest-")
		if strings.HasPrefix(name, "sst-") && !live || isLog && name != m.files["current"].whole() || name == "current.tmp" {
			out = append(out, name)
		}
	}
	return out
}

// pair: a manifest on a drive, and the model that has had the same calls.
type pair struct {
	d *drive.Drive
	p *manifest.Manifest
	m *model
}

// call: one call on a pair; it answers what the manifest and what the model returned.
type call struct {
	text string
	on   func(p *pair) (api.Errno, api.Errno)
}

func changeCall(e api.Edit) call {
	return call{fmt.Sprintf("Change(%v)", e), func(p *pair) (api.Errno, api.Errno) {
		return p.p.Change(e), p.m.change(e)
	}}
}

func armCall(n int) call {
	return call{fmt.Sprintf("Arm(%d)", n), func(p *pair) (api.Errno, api.Errno) {
		// Of a dead drive it is an error, and changes nothing.
		if p.d.Arm(n) == api.OK {
			p.m.left = n
		}
		return 0, 0
	}}
}

// tableCall: somebody writes the file of a table; that this is rejected does not make the manifest dead.
func tableCall(n int) call {
	name := fmt.Sprintf("sst-%06d", n)
	return call{name, func(p *pair) (api.Errno, api.Errno) {
		dead := p.m.dead
		p.m.dead = false
		p.m.append(name)
		p.m.dead = dead
		_ = p.d.Append(name, nil)
		return 0, 0
	}}
}

func openCall() call {
	return call{"Open", func(p *pair) (api.Errno, api.Errno) {
		p.p = manifest.Open(p.d)
		p.m.open()
		return 0, 0
	}}
}

func crashCall(keep int) call {
	return call{fmt.Sprintf("Crash(%d); Open", keep), func(p *pair) (api.Errno, api.Errno) {
		p.d = p.d.Crash(slices.Repeat([]int{keep}, 256))
		p.m.crash(keep)
		return openCall().on(p)
	}}
}

// difference tells in what the manifest and its drive differ from the model, or nothing.
func (p *pair) difference() string {
	if got := p.p.Version(); !sameVersion(got, p.m.v) {
		return fmt.Sprintf("Version: %v, want %v", got, p.m.v)
	}
	if got := p.p.Orphans(); !slices.Equal(got, p.m.orphans()) {
		return fmt.Sprintf("Orphans: %v, want %v", got, p.m.orphans())
	}
	if p.d.Steps() != p.m.steps || p.d.Dead() != (p.m.left == 0) {
		return fmt.Sprintf("%d steps, dead %t; want %d, %t", p.d.Steps(), p.d.Dead(), p.m.steps, p.m.left == 0)
	}
	if got := p.d.Names(); !slices.Equal(got, p.m.names()) {
		return fmt.Sprintf("files: %v, want %v", got, p.m.names())
	}
	for name, f := range p.m.files {
		if b, e := p.d.Read(name); e != api.OK || string(b) != f.whole() || p.d.Loose(name) != len(f.loose) {
			return fmt.Sprintf("%s: %q, %d loose, %d; want %q, %d loose", name, b, p.d.Loose(name), e, f.whole(), len(f.loose))
		}
	}
	return ""
}

func texts(calls []call) string {
	var out []string
	for _, c := range calls {
		out = append(out, c.text)
	}
	return strings.Join(out, "; ")
}

// run makes the calls one after another on a new drive; the manifest must agree with the model after each of them.
func run(t *testing.T, calls []call) {
	t.Helper()
	p := &pair{d: drive.New(), m: &model{files: map[string]modelFile{}, left: -1}}
	openCall().on(p)
	for i, c := range calls {
		if got, want := c.on(p); got != want {
			t.Fatalf("P8.1: %s: %d, want %d", texts(calls[:i+1]), got, want)
		}
		if s := p.difference(); s != "" {
			t.Fatalf("P8.1: after %s: %s", texts(calls[:i+1]), s)
		}
	}
}

func TestEveryShortSequence(t *testing.T) {
	alphabet := []call{
		changeCall(api.Edit{}), changeCall(api.Edit{Add: []api.Table{a1}, Next: 2}), changeCall(api.Edit{Drop: []int{1}, Add: []api.Table{b2}, Next: 3, Seq: 5}),
		changeCall(drop(1)), changeCall(add(c3, table(1, 1, "q", "r"))), changeCall(api.Edit{Next: 4, Log: 2}),
		armCall(0), armCall(1), armCall(3), armCall(6), crashCall(0), crashCall(14), crashCall(99), openCall(), tableCall(1),
	}
	var grow func(calls []call)
	grow = func(calls []call) {
		if len(calls) == 4 {
			run(t, calls)
			return
		}
		for _, c := range alphabet {
			grow(append(calls[:len(calls):len(calls)], c))
		}
	}
	grow(nil)
}

// mixer yields a fixed series of numbers (xorshift), so that every run of the tests is the same.
type mixer uint64

func (m *mixer) below(n int) int {
	*m ^= *m << 13
	*m ^= *m >> 7
	*m ^= *m << 17
	return int(uint64(*m) >> 11 % uint64(n))
}

func (m *mixer) text(n int) string {
	b := make([]byte, n)
	for i := range b {
		b[i] = byte(m.below(256))
	}
	return string(b)
}

// key: mostly short, at times as long as a key may be or longer.
func (m *mixer) key() string {
	if m.below(8) == 0 {
		return m.text(62 + m.below(4))
	}
	return m.text(m.below(3))
}

// edit: one that mostly fits the version.
func (m *mixer) edit(v api.Version) api.Edit {
	var e api.Edit
	next := v.Next
	for range m.below(4) {
		first, last := m.key(), m.key()
		if m.below(15) > 0 {
			first, last = min(first, last), max(first, last)
		}
		e.Add = append(e.Add, table(next, m.below(2), first, last))
		next += m.below(12) / 2
	}
	for _, t := range v.Tables {
		if m.below(4) == 0 {
			e.Drop = append(e.Drop, t.Number)
		}
	}
	if next > v.Next || m.below(3) == 0 {
		e.Next = next + m.below(12)/2
	}
	if m.below(3) == 0 {
		e.Log = v.Log + m.below(12)/2
	}
	if m.below(2) == 0 {
		e.Seq = v.Seq + m.below(99)
	}
	if m.below(25) == 0 {
		e.Drop = append(e.Drop, 1+m.below(9))
	}
	return e
}

// mixedCall: one of any kind, that fits the version that there is then.
func (m *mixer) mixedCall() call {
	switch m.below(20) {
	case 0, 1:
		return openCall()
	case 2, 3:
		return armCall(m.below(30))
	case 4, 5, 6:
		return crashCall(m.below(20) * m.below(20))
	case 7, 8:
		return tableCall(1 + m.below(30))
	case 9:
		return changeCall(longEditOf(m.below(9)))
	}
	return call{"Change", func(p *pair) (api.Errno, api.Errno) {
		e := m.edit(p.m.v)
		return p.p.Change(e), p.m.change(e)
	}}
}

func TestLongSequences(t *testing.T) {
	for seed := range 300 {
		m := mixer(seed + 1)
		var calls []call
		for range 80 {
			calls = append(calls, m.mixedCall())
		}
		run(t, calls)
	}
}

// TestFitAsTheModel: edits that are near to those that fit, of versions that came of others.
func TestFitAsTheModel(t *testing.T) {
	m := mixer(11)
	v, fitted := version(1, 1, 0), 0
	for range 100000 {
		e := m.edit(v)
		result, ok := modelFit(v, e)
		got, code := manifest.Fit(v, e)
		if ok != (code == api.OK) || ok && !sameVersion(got, result) || !ok && (code != api.ErrManifest || !sameVersion(got, api.Version{})) {
			t.Fatalf("P8.1: Fit(%v, %v): %v, %d, want %v, %t", v, e, got, code, result, ok)
		}
		if ok {
			v, fitted = result, fitted+1
		}
		if v.Next > 500 {
			v = version(1, 1, 0)
		}
	}
	if fitted < 50000 {
		t.Errorf("only %d edits fitted", fitted)
	}
}
