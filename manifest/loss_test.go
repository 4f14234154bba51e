package manifest_test

import (
	"slices"
	"testing"

	"convoy/api"
	"convoy/drive"
	"convoy/manifest"
)

// do makes changes until one is rejected; it answers the versions that there may be behind a loss of power.
func (m *mixer) do(t *testing.T, p *manifest.Manifest, changes int) []api.Version {
	t.Helper()
	for range changes {
		before := p.Version()
		e := m.edit(before)
		after, ok := modelFit(before, e)
		switch code := p.Change(e); {
		case ok && code == api.ErrDead:
			wantVersion(t, "Change that was rejected", p, before)
			return []api.Version{before, after}
		case ok != (code == api.OK):
			t.Fatalf("P8.1: Change(%v) of %v: %d", e, before, code)
		case ok:
			wantVersion(t, "Change", p, after)
		}
	}
	return []api.Version{p.Version()}
}

// keeps: how many loose bytes each file keeps: every number where they are few, else those about the ends and some others.
func (m *mixer) keeps(loose int) [][]int {
	var out [][]int
	for n := range min(loose, 40) + 1 {
		out = append(out, []int{n, n}, []int{loose - n, loose}, []int{m.below(loose + 1), m.below(loose + 1)})
	}
	return out
}

// checkLoss loses power on a drive in many ways; it answers one of the drives that remain.
func checkLoss(t *testing.T, m *mixer, d *drive.Drive, may []api.Version) *drive.Drive {
	t.Helper()
	loose := 0
	for _, name := range d.Names() {
		loose = max(loose, d.Loose(name))
	}
	var after []*drive.Drive
	for _, keep := range m.keeps(loose) {
		c := d.Crash(keep)
		got := manifest.Open(c).Version()
		if !slices.ContainsFunc(may, func(v api.Version) bool { return sameVersion(v, got) }) {
			t.Fatalf("P8.2: %v of %d loose bytes kept: %v, want one of %v", keep, loose, got, may)
		}
		after = append(after, c)
	}
	return after[m.below(len(after))]
}

// TestPowerIsLostAtAnyStep: at each step of some changes on what earlier losses of power have left.
func TestPowerIsLostAtAnyStep(t *testing.T) {
	for seed := range 120 {
		m := mixer(seed + 1)
		base := drive.New()
		for range 6 {
			v, script, changes := manifest.Open(base).Version(), m.below(1<<30)+1, 1+m.below(5)
			whole, first := base.Crash(nil), mixer(script)
			next := checkLoss(t, &m, whole, first.do(t, opened(t, whole, v), changes))
			for left := range whole.Steps() {
				d, again := base.Crash(nil), mixer(script)
				p := opened(t, d, v)
				want(t, "Arm", d.Arm(left), api.OK)
				may := again.do(t, p, changes)
				if !d.Dead() {
					t.Fatalf("P8.2: not dead after %d steps", d.Steps())
				}
				if c := checkLoss(t, &m, d, may); m.below(whole.Steps()) == 0 {
					next = c
				}
			}
			base = next
		}
	}
}

// TestWhatIsLeftOfALossOfPowerIsNoHindrance: a leftover of the switch, torn or whole, and a torn log's end.
func TestWhatIsLeftOfALossOfPowerIsNoHindrance(t *testing.T) {
	for left := range 12 {
		for keep := range 60 {
			d := drive.New()
			m := opened(t, d, version(1, 1, 0))
			want(t, "Arm", d.Arm(left), api.OK)
			first, second := m.Change(api.Edit{Add: []api.Table{a1}, Next: 5}), m.Change(add(d4))
			c := d.Crash([]int{keep, keep})
			n := manifest.Open(c)
			v := n.Version()
			if first == api.OK && v.Next != 5 || second == api.OK && len(v.Tables) != 2 {
				t.Fatalf("P8.2: %d steps, %d kept: %v", left, keep, v)
			}
			v.Seq = 77
			want(t, "Change behind the loss of power", n.Change(api.Edit{Seq: 77}), api.OK)
			v.Log = 78
			want(t, "a later Change", n.Change(api.Edit{Log: 78}), api.OK)
			n = opened(t, c.Crash(nil), v)
			wantOrphans(t, n)
		}
	}
}
