package manifest_test

import (
	"fmt"
	"slices"
	"strings"
	"testing"

	"convoy/api"
	"convoy/drive"
	"convoy/manifest"
)

func logName(n int) string {
	return fmt.Sprintf("manifest-%06d", n)
}

func want(t *testing.T, what string, got, code api.Errno) {
	t.Helper()
	if got != code {
		t.Errorf("P8.1: %s: %d, want %d", what, got, code)
	}
}

func wantVersion(t *testing.T, what string, m *manifest.Manifest, v api.Version) {
	t.Helper()
	if got := m.Version(); !sameVersion(got, v) {
		t.Errorf("P8.1: %s: the version is %v, want %v", what, got, v)
	}
}

func wantOrphans(t *testing.T, m *manifest.Manifest, names ...string) {
	t.Helper()
	if got := m.Orphans(); !slices.Equal(got, names) {
		t.Errorf("P8.1: Orphans: %v, want %v", got, names)
	}
}

// wantFiles: the drive has exactly these files, and has executed as many steps.
func wantFiles(t *testing.T, what string, d *drive.Drive, steps int, files map[string]string) {
	t.Helper()
	if len(d.Names()) != len(files) || d.Steps() != steps {
		t.Errorf("P8.1: %s: files %v, %d steps; want %d files, %d steps", what, d.Names(), d.Steps(), len(files), steps)
	}
	for name, whole := range files {
		if b, e := d.Read(name); e != api.OK || string(b) != whole {
			t.Errorf("P8.1: %s: %s: %q, %d, want %q", what, name, b, e, whole)
		}
	}
}

// wantLoose: that file has as many loose bytes, and no other file has any.
func wantLoose(t *testing.T, what string, d *drive.Drive, loose string, bytes int) {
	t.Helper()
	for _, name := range d.Names() {
		if n := d.Loose(name); name == loose && n != bytes || name != loose && n != 0 {
			t.Errorf("P8.1: %s: %s has %d loose bytes", what, name, n)
		}
	}
}

// loaded: a drive with these files, all bytes synced.
func loaded(t *testing.T, files map[string]string) *drive.Drive {
	t.Helper()
	var names []string
	var contents [][]byte
	for name, s := range files {
		names = append(names, name)
		contents = append(contents, []byte(s))
	}
	d, e := drive.Load(names, contents)
	if e != api.OK {
		t.Fatalf("Load: %d", e)
	}
	return d
}

func opened(t *testing.T, d *drive.Drive, v api.Version) *manifest.Manifest {
	t.Helper()
	before := d.Steps()
	m := manifest.Open(d)
	if m == nil || d.Steps() != before {
		t.Fatalf("P8.1: Open: a manifest: %t, %d steps", m != nil, d.Steps()-before)
	}
	wantVersion(t, "Open", m, v)
	return m
}

func TestExample(t *testing.T) {
	d := drive.New()
	m := opened(t, d, version(1, 1, 0))
	want(t, "Change without Next", m.Change(add(a1)), api.ErrManifest)
	wantFiles(t, "Change without Next", d, 0, nil)
	want(t, "Change with it", m.Change(api.Edit{Add: []api.Table{a1}, Next: 2}), api.OK)
	first := logOf(api.Edit{Next: 2, Log: 1}, add(a1))
	wantFiles(t, "Change with it", d, 5, map[string]string{"manifest-000001": first, "current": "manifest-000001"})
	second := api.Edit{Drop: []int{1}, Add: []api.Table{table(2, 1, "a", "c")}, Next: 3}
	want(t, "the second Change", m.Change(second), api.OK)
	wantVersion(t, "the second Change", m, version(3, 1, 0, b2))
	wantFiles(t, "the second Change", d, 7, map[string]string{"manifest-000001": first + logOf(second), "current": "manifest-000001"})
	want(t, "Append", d.Append("sst-000001", nil), api.OK)
	want(t, "Append", d.Append("sst-000002", nil), api.OK)
	wantOrphans(t, m, "sst-000001")

	m = opened(t, d, version(3, 1, 0, b2))
	want(t, "Change of one opened again", m.Change(api.Edit{Log: 2}), api.OK)
	wantFiles(t, "Change of one opened again", d, 15, map[string]string{
		"manifest-000002": logOf(api.Edit{Next: 3, Log: 2}, add(b2)), "current": "manifest-000002", "sst-000001": "", "sst-000002": "",
	})
}

func TestOpenFindsTheCurrentLog(t *testing.T) {
	v := version(3, 1, 0, b2)
	files := map[string]string{"manifest-000003": snapshotOf(v), "manifest-000004": snapshotOf(version(7, 7, 7)), "manifest-000000": snapshotOf(version(8, 8, 8)), "manifest-1000000": snapshotOf(version(9, 9, 9)), "manifest-3": snapshotOf(version(6, 6, 6)), "wal-000001": snapshotOf(version(5, 5, 5)), "current.tmp": "manifest-000004"}
	for name, v := range map[string]api.Version{
		"manifest-000003": v, "manifest-000004": version(7, 7, 7), "manifest-000005": version(1, 1, 0), "manifest-999999": version(1, 1, 0),
		"": version(1, 1, 0), "manifest-00000": version(1, 1, 0), "manifest-000003\n": version(1, 1, 0), " manifest-000003": version(1, 1, 0), "manifest-0000030": version(1, 1, 0),
		"manifest-000000": version(1, 1, 0), "manifest-1000000": version(1, 1, 0), "manifest-3": version(1, 1, 0), "manifest-+00003": version(1, 1, 0), "wal-000001": version(1, 1, 0), "current": version(1, 1, 0),
		"MANIFEST-000003": version(1, 1, 0), "000003": version(1, 1, 0), "manifest-000003manifest-000003": version(1, 1, 0),
	} {
		files["current"] = name
		opened(t, loaded(t, files), v)
	}
	delete(files, "current")
	opened(t, loaded(t, files), version(1, 1, 0))
	// Loose bytes count, too, and a dead drive can be read.
	d := drive.New()
	want(t, "Append", d.Append("current", []byte("manifest-000001")), api.OK)
	want(t, "Append", d.Append("manifest-000001", []byte(snapshotOf(v))), api.OK)
	want(t, "Arm", d.Arm(0), api.OK)
	opened(t, d, v)
}

func TestOpenReadsALogAsFarAsItsEditsFit(t *testing.T) {
	begin := logOf(api.Edit{Next: 5, Log: 2, Seq: 3}, add(a1), add(b2))
	v := version(5, 2, 3, a1, b2)
	after := logOf(add(d4))
	broken := []byte(after)
	broken[len(broken)-1]++
	for what, c := range map[string]struct {
		log string
		v   api.Version
	}{
		"no bytes":                 {"", version(1, 1, 0)},
		"all of it":                {begin + after, version(5, 2, 3, a1, b2, d4)},
		"an edit of nothing":       {begin + logOf(api.Edit{}) + after, version(5, 2, 3, a1, b2, d4)},
		"a torn frame":             {begin + after[:len(after)-1], v},
		"a broken frame":           {begin + string(broken) + after, v},
		"no frame":                 {begin + "\x00" + after, v},
		"a frame of no bytes":      {begin + framed("") + after, v},
		"no edit's payload":        {begin + framed(payloadOf(drop(1))+"\x00") + after, v},
		"a number too long":        {begin + framed("\x00\x00\x80\x00\x00\x00") + after, v},
		"a number above 2^62":      {begin + framed(payloadOf(api.Edit{Seq: 1<<62 + 1})) + after, v},
		"an edit that doesn't fit": {begin + logOf(drop(3)) + after, v},
		"a table that is there":    {begin + logOf(add(a1)) + after, v},
		"half of it would fit":     {begin + logOf(api.Edit{Drop: []int{1}, Add: []api.Table{c3}, Next: 4}) + after, v},
		"half of a list would fit": {begin + logOf(drop(1, 3)) + logOf(add(c3, a1)) + after, v},
		"a Next that falls":        {begin + logOf(api.Edit{Next: 4}) + after, v},
		"a level that is none":     {begin + logOf(add(table(3, 2, "a", "a"))) + after, v},
		"a table that moves":       {begin + logOf(api.Edit{Drop: []int{1}, Add: []api.Table{table(1, 1, "x", "x")}}) + after, version(5, 2, 3, table(1, 1, "x", "x"), b2, d4)},
		"a table comes again":      {begin + logOf(drop(1), add(a1)) + after, version(5, 2, 3, a1, b2, d4)},
		"the first doesn't fit":    {logOf(add(a1)) + begin, version(1, 1, 0)},
		"a snapshot twice":         {begin + begin, v},
	} {
		m := manifest.Open(loaded(t, map[string]string{"current": "manifest-000007", "manifest-000007": c.log}))
		wantVersion(t, what, m, c.v)
		want(t, what, m.Change(api.Edit{}), api.OK)
		wantVersion(t, what+", changed", m, c.v)
	}
}

func TestTheNumberOfTheLog(t *testing.T) {
	for _, c := range []struct {
		exist  []int
		number int
	}{
		{nil, 1}, {[]int{1}, 2}, {[]int{4}, 5}, {[]int{9, 10, 2}, 11}, {[]int{1, 99999, 100000}, 100001}, {[]int{999998}, 999999}, {[]int{2, 999999}, 1000000},
	} {
		files := map[string]string{"manifest-0000005": "x", "manifest-1000005": "x", "manifest-000000": "x", "wal-000077": "x", "manifest": "x"}
		strangers := len(files)
		for _, n := range c.exist {
			files[logName(n)] = ""
		}
		d := loaded(t, files)
		m := opened(t, d, version(1, 1, 0))
		if c.number == 1000000 {
			want(t, "Change behind the last log", m.Change(api.Edit{}), api.ErrFull)
			want(t, "Change behind the last log", m.Change(api.Edit{Next: 2}), api.ErrFull)
			wantFiles(t, "Change behind the last log", d, 0, files)
			wantVersion(t, "Change behind the last log", m, version(1, 1, 0))
			continue
		}
		want(t, "Change", m.Change(api.Edit{}), api.OK)
		b, _ := d.Read("current")
		if !slices.Contains(d.Names(), logName(c.number)) || string(b) != logName(c.number) || len(d.Names()) != strangers+2 {
			t.Errorf("P8.1: logs %v: the files are %v, current is %q, want %d", c.exist, d.Names(), b, c.number)
		}
		for name := range files {
			if strings.HasSuffix(files[name], "x") && d.Size(name) != 1 {
				t.Errorf("P8.1: %s was touched", name)
			}
		}
	}
}

// old: the files of a manifest that was left in the middle of a switch, and what is there beside it.
func old() map[string]string {
	return map[string]string{
		"current": "manifest-000009", "manifest-000009": logOf(api.Edit{Next: 5, Log: 2}, add(a1), add(b2)),
		"manifest-000010": "torn", "manifest-000002": "", "current.tmp": "manifest-0", "sst-000001": "", "wal-000001": "w",
	}
}

// TestTheSwitch: each of its steps, and what the files are when the next one is rejected.
func TestTheSwitch(t *testing.T) {
	e := api.Edit{Add: []api.Table{d4}, Drop: []int{1}, Seq: 6}
	after := version(5, 2, 6, b2, d4)
	files := old()
	oldLog, whole := files["manifest-000009"], snapshotOf(after)
	for steps, c := range []struct {
		change  func()
		loose   string
		bytes   int
		current string
	}{
		{func() {}, "", 0, oldLog},
		{func() { delete(files, "current.tmp") }, "", 0, oldLog},
		{func() { files["manifest-000011"] = whole }, "manifest-000011", len(whole), oldLog},
		{func() {}, "", 0, oldLog},
		{func() { files["current.tmp"] = "manifest-000011" }, "current.tmp", 15, oldLog},
		{func() {}, "", 0, oldLog},
		{func() { delete(files, "current.tmp"); files["current"] = "manifest-000011" }, "", 0, whole},
		{func() { delete(files, "manifest-000002") }, "", 0, whole},
		{func() { delete(files, "manifest-000009") }, "", 0, whole},
		{func() { delete(files, "manifest-000010") }, "", 0, whole},
	} {
		c.change()
		d := loaded(t, old())
		m := opened(t, d, version(5, 2, 0, a1, b2))
		want(t, "Arm", d.Arm(steps), api.OK)
		code, v := api.ErrDead, version(5, 2, 0, a1, b2)
		if steps == 9 {
			code, v = api.OK, after
		}
		what := fmt.Sprint("the switch, ", steps, " steps")
		want(t, what, m.Change(e), code)
		wantVersion(t, what, m, v)
		wantFiles(t, what, d, steps, files)
		wantLoose(t, what, d, c.loose, c.bytes)
		read := version(5, 2, 0, a1, b2)
		if c.current == whole {
			read = after
		}
		opened(t, d, read)
	}
}

func TestTheSwitchWithoutALeftover(t *testing.T) {
	d := drive.New()
	m := opened(t, d, version(1, 1, 0))
	for steps := range 5 {
		d := drive.New()
		m := opened(t, d, version(1, 1, 0))
		want(t, "Arm", d.Arm(steps), api.OK)
		want(t, "the switch", m.Change(api.Edit{}), api.ErrDead)
	}
	want(t, "Arm", d.Arm(5), api.OK)
	want(t, "the switch", m.Change(api.Edit{}), api.OK)
	wantFiles(t, "the switch", d, 5, map[string]string{"current": "manifest-000001", "manifest-000001": logOf(api.Edit{Next: 1, Log: 1})})
	want(t, "Change", m.Change(api.Edit{}), api.ErrDead)
}

// TestALaterChange: an Append and a Sync, of the edit as it was given.
func TestALaterChange(t *testing.T) {
	first, second := api.Edit{Next: 9}, api.Edit{Add: []api.Table{d4, a1}, Log: 3, Seq: 1 << 62}
	for steps := range 3 {
		d := drive.New()
		m := opened(t, d, version(1, 1, 0))
		want(t, "the first Change", m.Change(first), api.OK)
		want(t, "Arm", d.Arm(steps), api.OK)
		code, v := api.ErrDead, version(9, 1, 0)
		if steps == 2 {
			code, v = api.OK, version(9, 3, 1<<62, a1, d4)
		}
		what := fmt.Sprint("a later Change, ", steps, " steps")
		want(t, what, m.Change(second), code)
		wantVersion(t, what, m, v)
		log, more := logOf(api.Edit{Next: 9, Log: 1}), logOf(second)
		if steps == 0 {
			more = ""
		}
		wantFiles(t, what, d, 5+steps, map[string]string{"current": "manifest-000001", "manifest-000001": log + more})
		wantLoose(t, what, d, "manifest-000001", (steps%2)*len(more))
	}
}

func TestOnlyWhatSwitchedIsTheFirstChange(t *testing.T) {
	d := drive.New()
	m := opened(t, d, version(1, 1, 0))
	want(t, "Change that doesn't fit", m.Change(drop(1)), api.ErrManifest)
	want(t, "Change that is too long", m.Change(longEdit()), api.ErrLong)
	wantFiles(t, "Changes that failed", d, 0, nil)
	want(t, "the first Change", m.Change(api.Edit{Seq: 1}), api.OK)
	want(t, "Change that doesn't fit", m.Change(drop(1)), api.ErrManifest)
	want(t, "Change that is too long", m.Change(longEdit()), api.ErrLong)
	want(t, "a later Change", m.Change(api.Edit{Seq: 2}), api.OK)
	wantFiles(t, "Changes", d, 7, map[string]string{"current": "manifest-000001", "manifest-000001": logOf(api.Edit{Next: 1, Log: 1, Seq: 1}, api.Edit{Seq: 2})})
	wantVersion(t, "Changes", m, version(1, 1, 2))
}

// longEdit fits the first version, and is one byte too long.
func longEdit() api.Edit {
	e := api.Edit{Next: 1000000}
	for n := 1; n <= 30; n++ {
		e.Add = append(e.Add, table(n, 0, long("a", 64), long("b", 64)))
	}
	rest := 4097 - len(payloadOf(e)) - len("\x1f\x00\x3f\x3f")
	e.Add = append(e.Add, table(31, 0, long("a", rest/2), long("b", rest-rest/2)))
	return e
}

func TestALongEdit(t *testing.T) {
	e := longEdit()
	if len(payloadOf(e)) != 4097 {
		t.Fatalf("%d bytes", len(payloadOf(e)))
	}
	if _, code := manifest.Fit(version(1, 1, 0), e); code != api.OK {
		t.Fatalf("P8.1: Fit: %d", code)
	}
	shorter := api.Edit{Next: 1000000, Add: slices.Clone(e.Add)}
	shorter.Add[30].Last = shorter.Add[30].Last[1:]
	for _, first := range []bool{true, false} {
		d := drive.New()
		m := opened(t, d, version(1, 1, 0))
		if !first {
			want(t, "the first Change", m.Change(api.Edit{}), api.OK)
		}
		steps := d.Steps()
		want(t, "Change of 4097 bytes", m.Change(e), api.ErrLong)
		wantVersion(t, "Change of 4097 bytes", m, version(1, 1, 0))
		if d.Steps() != steps {
			t.Errorf("P8.1: ErrLong executed steps")
		}
		want(t, "Change of 4096 bytes", m.Change(shorter), api.OK)
		after := version(1000000, 1, 0, shorter.Add...)
		wantVersion(t, "Change of 4096 bytes", m, after)
		opened(t, d.Crash(nil), after)
	}
}

// TestTheOrderOfErrors: ErrManifest, ErrLong, ErrFull, ErrDead.
func TestTheOrderOfErrors(t *testing.T) {
	full := opened(t, loaded(t, map[string]string{"manifest-999999": ""}), version(1, 1, 0))
	d := drive.New()
	dead := opened(t, d, version(1, 1, 0))
	want(t, "Arm", d.Arm(0), api.OK)
	want(t, "Change that is rejected", dead.Change(api.Edit{}), api.ErrDead)
	notFitting := longEdit()
	notFitting.Log = -1
	for m, code := range map[*manifest.Manifest]api.Errno{full: api.ErrFull, dead: api.ErrDead} {
		want(t, "Change that doesn't fit", m.Change(drop(1)), api.ErrManifest)
		want(t, "Change that is negative", m.Change(api.Edit{Seq: -1}), api.ErrManifest)
		want(t, "Change that doesn't fit and is too long", m.Change(notFitting), api.ErrManifest)
		want(t, "Change that is too long", m.Change(longEdit()), api.ErrLong)
		want(t, "Change", m.Change(api.Edit{}), code)
	}
	d = loaded(t, map[string]string{"manifest-999999": ""})
	want(t, "Arm", d.Arm(0), api.OK)
	want(t, "Change behind the last log on a dead drive", opened(t, d, version(1, 1, 0)).Change(api.Edit{}), api.ErrFull)
}

// TestADeadManifest: behind a rejected step each Change that fits is rejected, and nothing else changes.
func TestADeadManifest(t *testing.T) {
	for left := range 9 {
		d := loaded(t, old())
		m := opened(t, d, version(5, 2, 0, a1, b2))
		want(t, "Arm", d.Arm(left), api.OK)
		want(t, "Change", m.Change(drop(1)), api.ErrDead)
		orphans := m.Orphans()
		for range 2 {
			want(t, "Change of a dead manifest", m.Change(drop(1)), api.ErrDead)
			want(t, "Change of a dead manifest", m.Change(api.Edit{}), api.ErrDead)
			want(t, "Change of a dead manifest that doesn't fit", m.Change(drop(3)), api.ErrManifest)
			want(t, "Change of a dead manifest that is too long", m.Change(longEditOf(9)), api.ErrLong)
			wantVersion(t, "a dead manifest", m, version(5, 2, 0, a1, b2))
			wantOrphans(t, m, orphans...)
		}
		if d.Steps() != left {
			t.Errorf("P8.1: a dead manifest: %d steps, want %d", d.Steps(), left)
		}
	}
}

// longEditOf: it adds tables from this number on, and is too long.
func longEditOf(from int) api.Edit {
	e := longEdit()
	for i := range e.Add {
		e.Add[i].Number += from
	}
	return e
}

// TestAFullDrive: a step that the drive rejects because there is no room is a rejected step, too.
func TestAFullDrive(t *testing.T) {
	for files, steps := range map[int]int{256: 0, 255: 2, 254: 5} {
		d := drive.New()
		for i := range files {
			want(t, "Append", d.Append(fmt.Sprint("f", i), nil), api.OK)
		}
		m := opened(t, d, version(1, 1, 0))
		code, v := api.ErrDead, version(1, 1, 0)
		if files == 254 {
			code, v = api.OK, version(1, 1, 4)
		}
		want(t, "Change on a full drive", m.Change(api.Edit{Seq: 4}), code)
		wantVersion(t, "Change on a full drive", m, v)
		want(t, "Delete", d.Delete("f0"), api.OK)
		want(t, "Delete", d.Delete("f1"), api.OK)
		want(t, "Change behind it", m.Change(api.Edit{}), code)
		if files != 254 && d.Steps() != files+steps+2 {
			t.Errorf("P8.1: %d steps, want %d", d.Steps()-files-2, steps)
		}
		opened(t, d.Crash(nil), v)
	}
}

// TestAFullLog: 2^18 bytes are a log's most.
func TestAFullLog(t *testing.T) {
	d := drive.New()
	m := opened(t, d, version(1, 1, 0))
	want(t, "the first Change", m.Change(api.Edit{}), api.OK)
	size, seq := d.Size("manifest-000001"), 0
	for ; size+len(logOf(api.Edit{Seq: 1<<40 + seq})) <= api.MaxFile; seq++ {
		e := api.Edit{Seq: 1<<40 + seq}
		want(t, "Change", m.Change(e), api.OK)
		size += len(logOf(e))
	}
	v := version(1, 1, 1<<40+seq-1)
	want(t, "Change of a full log", m.Change(api.Edit{Seq: 1<<40 + seq}), api.ErrDead)
	want(t, "Change behind it", m.Change(api.Edit{}), api.ErrDead)
	wantVersion(t, "a full log", m, v)
	if d.Size("manifest-000001") != size || d.Loose("manifest-000001") != 0 {
		t.Errorf("P8.1: a full log: %d bytes, want %d", d.Size("manifest-000001"), size)
	}
	m = opened(t, d, v)
	want(t, "Change of one opened again", m.Change(api.Edit{Seq: 1<<40 + seq}), api.OK)
	wantFiles(t, "Change of one opened again", d, d.Steps(), map[string]string{"current": "manifest-000002", "manifest-000002": logOf(api.Edit{Next: 1, Log: 1, Seq: 1<<40 + seq})})
}

func TestOrphans(t *testing.T) {
	files := map[string]string{"current": "manifest-000003", "manifest-000003": snapshotOf(version(1000000, 1, 0, a1, table(999999, 0, "", ""), b2))}
	var orphans []string
	for _, name := range []string{"sst-000003", "sst-000004", "sst-000010", "sst-999998", "manifest-000001", "manifest-000002", "manifest-000004", "manifest-999999", "current.tmp"} {
		files[name], orphans = "x", append(orphans, name)
	}
	for _, name := range []string{
		"sst-000001", "sst-000002", "sst-999999", "sst-000000", "sst-00003", "sst-0000003", "sst-1000000", "sst-00000a", "sst-", "sst", "sst-000003.tmp", "xsst-000003", "sst.000003",
		"manifest-000000", "manifest-00001", "manifest-1000000", "manifest-", "manifest", "wal-000001", "wal-000003", "current.tmp.tmp", "current.", "xcurrent.tmp", "current.tm", "a", "000003",
	} {
		files[name] = "x"
	}
	slices.Sort(orphans)
	d := loaded(t, files)
	m := opened(t, d, version(1000000, 1, 0, a1, table(999999, 0, "", ""), b2))
	wantOrphans(t, m, orphans...)
	if d.Steps() != 0 {
		t.Errorf("P8.1: Orphans executed %d steps", d.Steps())
	}
	wantOrphans(t, opened(t, drive.New(), version(1, 1, 0)))
}

// TestOrphansOfEachLog: whatever current names, each log but the current one is left over; so are all if there is none.
func TestOrphansOfEachLog(t *testing.T) {
	for name, orphans := range map[string][]string{
		"manifest-000001": {"manifest-000002"}, "manifest-000002": {"manifest-000001"}, "manifest-000003": {"manifest-000001", "manifest-000002"},
		"": {"manifest-000001", "manifest-000002"}, "manifest-000001 ": {"manifest-000001", "manifest-000002"},
	} {
		d := loaded(t, map[string]string{"manifest-000001": "", "manifest-000002": "", "current": name})
		wantOrphans(t, manifest.Open(d), orphans...)
		d = loaded(t, map[string]string{"manifest-000001": "", "manifest-000002": ""})
		wantOrphans(t, manifest.Open(d), "manifest-000001", "manifest-000002")
	}
}

// TestOrphansAheadOfAndBehindAChange: they are told of the files and the version as they are.
func TestOrphansAheadOfAndBehindAChange(t *testing.T) {
	d := loaded(t, old())
	m := opened(t, d, version(5, 2, 0, a1, b2))
	wantOrphans(t, m, "current.tmp", "manifest-000002", "manifest-000010")
	want(t, "Append", d.Append("sst-000004", nil), api.OK)
	wantOrphans(t, m, "current.tmp", "manifest-000002", "manifest-000010", "sst-000004")
	want(t, "Change", m.Change(api.Edit{Add: []api.Table{d4}, Drop: []int{1}}), api.OK)
	wantOrphans(t, m, "sst-000001")
	want(t, "Change", m.Change(drop(4)), api.OK)
	wantOrphans(t, m, "sst-000001", "sst-000004")

	for left, orphans := range map[int][]string{
		1: {"manifest-000002", "manifest-000010"}, 2: {"manifest-000002", "manifest-000010", "manifest-000011"}, 5: {"current.tmp", "manifest-000002", "manifest-000010", "manifest-000011"},
		6: {"manifest-000002", "manifest-000009", "manifest-000010"}, 8: {"manifest-000010"},
	} {
		d = loaded(t, old())
		m = opened(t, d, version(5, 2, 0, a1, b2))
		want(t, "Arm", d.Arm(left), api.OK)
		want(t, "Change", m.Change(drop(1)), api.ErrDead)
		wantOrphans(t, m, orphans...)
	}
}

func TestManifestsOfTwoDrives(t *testing.T) {
	d, c := drive.New(), drive.New()
	m, n := opened(t, d, version(1, 1, 0)), opened(t, c, version(1, 1, 0))
	want(t, "Change", m.Change(api.Edit{Add: []api.Table{a1}, Next: 2}), api.OK)
	wantVersion(t, "the other one", n, version(1, 1, 0))
	wantFiles(t, "the other one", c, 0, nil)
	want(t, "Arm", d.Arm(0), api.OK)
	want(t, "Change", m.Change(drop(1)), api.ErrDead)
	want(t, "Change of the other one", n.Change(api.Edit{Seq: 2}), api.OK)
	wantVersion(t, "the other one", n, version(1, 1, 2))
	wantVersion(t, "the one", m, version(2, 1, 0, a1))
}
