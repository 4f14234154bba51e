package manifest_test

import (
	"slices"
	"strings"
	"testing"

	"convoy/api"
	"convoy/drive"
	"convoy/manifest"
)

// rubbish: edits, torn, changed or doubled ones, and bytes of any values.
func (m *mixer) rubbish() string {
	s, v := "", version(1, 1, 0)
	for range m.below(8) {
		e := m.edit(v)
		v, _ = modelFit(v, e)
		payload := payloadOf(e)
		switch m.below(12) {
		case 0:
			s += m.text(m.below(20))
		case 1:
			s += framed(m.text(m.below(20)))
		case 2:
			s += framed(payload[:m.below(len(payload))])
		case 3:
			b := []byte(payload)
			b[m.below(len(b))] = byte(m.below(256))
			s += framed(string(b))
		case 4:
			s += framed(payload)[:m.below(len(payload))]
		}
		s += framed(payload)
	}
	return s
}

// wantAVersion: the manifest has a version, which outlives a change and being opened again.
func wantAVersion(t *testing.T, d *drive.Drive) {
	t.Helper()
	m := manifest.Open(d)
	v := m.Version()
	if same, code := manifest.Fit(v, api.Edit{}); code != api.OK || !sameVersion(same, v) || !isModelVersion(v) {
		t.Fatalf("P8.3: Open yields no version: %v, %d", v, code)
	}
	m.Orphans()
	if m.Change(api.Edit{}) == api.OK {
		opened(t, d.Crash(nil), v)
	}
}

func TestOpenYieldsAVersionForAnyFiles(t *testing.T) {
	m := mixer(5)
	for range 20000 {
		files := map[string]string{"current": logName(1 + m.below(3)), "manifest-000001": m.rubbish(), "manifest-000002": m.rubbish(), "current.tmp": m.text(m.below(3))}
		if m.below(9) == 0 {
			files["current"] += m.text(m.below(3))
		}
		if m.below(9) == 0 {
			delete(files, "manifest-000002")
		}
		wantAVersion(t, loaded(t, files))
	}
	for _, b := range []string{strings.Repeat("\x00", 262144), strings.Repeat("\xff", 262144), strings.Repeat(framed(""), 50000), strings.Repeat(framed("\x00"), 40000), m.text(262144)} {
		wantAVersion(t, loaded(t, map[string]string{"current": "manifest-000001", "manifest-000001": b}))
		wantAVersion(t, loaded(t, map[string]string{"current": b, "manifest-000001": b, "current.tmp": b}))
	}
}

// manyTables: the bytes of a log of as many tables, several of them in an edit.
func manyTables(count int) string {
	var b strings.Builder
	b.WriteString(logOf(api.Edit{Next: 1000000}))
	for from := 1; from <= count; from += 500 {
		var e api.Edit
		for n := from; n < from+500 && n <= count; n++ {
			e.Add = append(e.Add, table(n, n%2, "", ""))
		}
		b.WriteString(logOf(e))
	}
	return b.String()
}

// TestManyTables: a log of as many edits and tables as a file can hold, nearly; then a snapshot too long for a file, and one that has room.
func TestManyTables(t *testing.T) {
	log := manyTables(21000)
	log += strings.Repeat(logOf(api.Edit{}), (api.MaxFile-len(log)-20)/10) + logOf(drop(1))
	d := loaded(t, map[string]string{"current": "manifest-000001", "manifest-000001": log})
	m := manifest.Open(d)
	v := m.Version()
	if len(v.Tables) != 20999 || v.Tables[0].Number != 2 || v.Tables[20998].Number != 20999 {
		t.Fatalf("P8.3: %d tables", len(v.Tables))
	}
	// A snapshot has a frame for each table: that of so many is longer than a file may be.
	want(t, "Change of very many tables", m.Change(api.Edit{}), api.ErrDead)
	wantFiles(t, "Change of very many tables", d, 0, map[string]string{"current": "manifest-000001", "manifest-000001": log})

	d = loaded(t, map[string]string{"current": "manifest-000001", "manifest-000001": manyTables(15000)})
	m = manifest.Open(d)
	v = m.Version()
	want(t, "Change of many tables", m.Change(api.Edit{Drop: []int{v.Tables[0].Number}}), api.OK)
	v.Tables = v.Tables[1:]
	wantVersion(t, "Change of many tables", m, v)
	wantFiles(t, "Change of many tables", d, 6, map[string]string{"current": "manifest-000002", "manifest-000002": snapshotOf(v)})
	for range 2000 {
		want(t, "Change of many tables", m.Change(api.Edit{}), api.OK)
	}
	opened(t, d, v)
}

// scribble overwrites a list and its spare capacity.
func scribble[T any](s []T, v T) {
	s = s[:cap(s)]
	for i := range s {
		s[i] = v
	}
}

// roomy: a copy with spare capacity, all of which is known.
func roomy[T any](s []T, spare T) []T {
	return append(slices.Clone(s), spare, spare, spare)[:len(s)]
}

func isSpared[T comparable](s []T, spare T) bool {
	return !slices.ContainsFunc(s[:len(s)+3][len(s):], func(v T) bool { return v != spare })
}

var spareTable = table(-7, -7, "spare", "spare")

// roomyEdit: an edit that has spare capacity, and whose lists are in no order.
func roomyEdit() api.Edit {
	return api.Edit{Add: roomy([]api.Table{d4, a1}, spareTable), Drop: roomy([]int{3, 2}, -7), Next: 6, Seq: 9}
}

// wantUntouched: the edit is as roomyEdit made it.
func wantUntouched(t *testing.T, what string, e api.Edit) {
	t.Helper()
	if !sameEdit(e, roomyEdit()) || !isSpared(e.Add, spareTable) || !isSpared(e.Drop, -7) {
		t.Errorf("P8.4: %s modified its argument: %v", what, e)
	}
}

func TestFitNeitherModifiesNorRetainsArguments(t *testing.T) {
	e := roomyEdit()
	v := api.Version{Tables: roomy([]api.Table{c3, b2}, spareTable), Next: 5, Log: 1}
	got, code := manifest.Fit(v, e)
	again, _ := manifest.Fit(v, e)
	result := version(6, 1, 9, a1, d4)
	if code != api.OK || !sameVersion(got, result) || !sameVersion(v, version(5, 1, 0, c3, b2)) || !isSpared(v.Tables, spareTable) {
		t.Errorf("P8.4: Fit: %v, %d, and its argument is %v", got, code, v)
	}
	wantUntouched(t, "Fit", e)
	scribble(v.Tables, spareTable)
	scribble(e.Add, spareTable)
	scribble(again.Tables, spareTable)
	if !sameVersion(got, result) {
		t.Errorf("P8.4: Fit shares memory: %v", got)
	}
	v = version(5, 1, 0, c3, b2)
	got, _ = manifest.Fit(v, api.Edit{})
	scribble(got.Tables, spareTable)
	if !sameVersion(v, version(5, 1, 0, c3, b2)) {
		t.Errorf("P8.4: Fit shares memory with its argument: %v", v)
	}
}

func TestCodesNeitherModifyNorRetainArguments(t *testing.T) {
	e := roomyEdit()
	b, _ := manifest.Encode(e)
	again, _ := manifest.Encode(e)
	wantUntouched(t, "Encode", e)
	scribble(again, 0)
	if string(b) != payloadOf(e) {
		t.Errorf("P8.4: Encode shares memory: %q", b)
	}
	b = roomy(b, 7)
	x, _ := manifest.Decode(b)
	y, _ := manifest.Decode(b)
	if string(b) != payloadOf(e) || !isSpared(b, 7) {
		t.Errorf("P8.4: Decode modified its argument: %q", b)
	}
	scribble(b, 0)
	scribble(y.Add, spareTable)
	scribble(y.Drop, 0)
	if !sameEdit(x, e) {
		t.Errorf("P8.4: Decode shares memory: %v", x)
	}
}

func TestManifestsShareNoMemory(t *testing.T) {
	for _, first := range []bool{true, false} {
		d := drive.New()
		m := opened(t, d, version(1, 1, 0))
		begin := api.Edit{Add: []api.Table{c3, b2}, Next: 5}
		want(t, "Change", m.Change(begin), api.OK)
		if first {
			m = opened(t, d, version(5, 1, 0, c3, b2))
		}
		e, v := roomyEdit(), version(6, 1, 9, a1, d4)
		want(t, "Change", m.Change(e), api.OK)
		wantUntouched(t, "Change", e)
		scribble(begin.Add, spareTable)
		scribble(e.Add, spareTable)
		scribble(e.Drop, 1)
		wantVersion(t, "P8.4: scribbled on arguments", m, v)
		scribble(m.Version().Tables, spareTable)
		wantVersion(t, "P8.4: scribbled on a result", m, v)
		want(t, "Append", d.Append("sst-000002", nil), api.OK)
		want(t, "Append", d.Append("sst-000003", nil), api.OK)
		scribble(m.Orphans(), "x")
		wantOrphans(t, m, "sst-000002", "sst-000003")
		opened(t, d.Crash(nil), v)
	}
}
