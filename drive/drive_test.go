package drive_test

import (
	"bytes"
	"fmt"
	"math"
	"slices"
	"strings"
	"testing"

	"convoy/api"
	"convoy/drive"
)

func want(t *testing.T, what string, got, code api.Errno) {
	t.Helper()
	if got != code {
		t.Errorf("P2.1: %s: %d, want %d", what, got, code)
	}
}

func wantFile(t *testing.T, d *drive.Drive, name, whole string, loose int) {
	t.Helper()
	if b, e := d.Read(name); string(b) != whole || e != api.OK {
		t.Errorf("P2.1: Read(%s): %d bytes, %d; want %d bytes", name, len(b), e, len(whole))
	}
	if d.Size(name) != len(whole) || d.Loose(name) != loose {
		t.Errorf("P2.1: %s: Size %d, Loose %d; want %d, %d", name, d.Size(name), d.Loose(name), len(whole), loose)
	}
}

// wantNothing: the drive has no file of this name.
func wantNothing(t *testing.T, d *drive.Drive, name string, code api.Errno) {
	t.Helper()
	if b, e := d.Read(name); len(b) != 0 || e != code {
		t.Errorf("P2.1: Read(%q): %d bytes, %d; want none, %d", name, len(b), e, code)
	}
	if d.Size(name) != 0 || d.Loose(name) != 0 {
		t.Errorf("P2.1: %q: Size %d, Loose %d; want 0, 0", name, d.Size(name), d.Loose(name))
	}
}

// made: a drive on which these calls returned OK.
func made(t *testing.T, calls ...call) *drive.Drive {
	t.Helper()
	p := newPair()
	for _, c := range calls {
		got, _, next := c.on(p)
		want(t, c.text, got, api.OK)
		p = next
	}
	return p.d
}

// full: a drive with as many files as there may be.
func full(t *testing.T) *drive.Drive {
	t.Helper()
	d := drive.New()
	for i := range 256 {
		want(t, "Append", d.Append(fmt.Sprint("f", i), nil), api.OK)
	}
	return d
}

func TestNewHasNothing(t *testing.T) {
	d := drive.New()
	if len(d.Names()) != 0 || d.Steps() != 0 || d.Dead() {
		t.Errorf("P2.1: New: %v, %d, %t", d.Names(), d.Steps(), d.Dead())
	}
	wantNothing(t, d, "a", api.ErrNone)
}

func TestExample(t *testing.T) {
	d := made(t, appendCall("a", "123"), syncCall("a"), appendCall("a", "45"), appendCall("b", "6"))
	for _, c := range []struct {
		keeps []int
		a, b  string
	}{{nil, "123", ""}, {[]int{1}, "1234", ""}, {[]int{9, 9}, "12345", "6"}, {[]int{0, 1}, "123", "6"}} {
		x := d.Crash(c.keeps)
		wantFile(t, x, "a", c.a, 0)
		wantFile(t, x, "b", c.b, 0)
	}
	want(t, "Rename(a, b)", d.Rename("a", "b"), api.OK)
	wantFile(t, d, "b", "12345", 2)
	want(t, "Delete(a)", d.Delete("a"), api.ErrNone)
	want(t, "Append(A)", d.Append("A", []byte{1}), api.ErrName)
	want(t, "Arm(1)", d.Arm(1), api.OK)
	want(t, "Sync(b)", d.Sync("b"), api.OK)
	if !d.Dead() {
		t.Error("P2.1: not dead without a step left")
	}
	want(t, "Append(b) when dead", d.Append("b", []byte{1}), api.ErrDead)
}

func TestNames(t *testing.T) {
	good := []string{"a", "z", "0", "9", "-", ".", "..", "wal-000007", "current.tmp", strings.Repeat("a", 32)}
	bad := []string{"", "A", "a b", "a/b", "a_b", "a\x00", "żółw", "a\n", strings.Repeat("a", 33), strings.Repeat("a", 1000)}
	for c := range 256 {
		s := string([]byte{'a', byte(c), 'a'})
		if c >= 'a' && c <= 'z' || c >= '0' && c <= '9' || c == '-' || c == '.' {
			good = append(good, s)
		} else {
			bad = append(bad, s, s[1:], s[:2])
		}
	}
	for _, name := range good {
		checkGoodName(t, name)
	}
	for _, name := range bad {
		checkBadName(t, name)
	}
}

func checkGoodName(t *testing.T, name string) {
	d, e := drive.Load([]string{name}, [][]byte{{1}})
	want(t, "Load of "+name, e, api.OK)
	want(t, "Append to "+name, d.Append(name, []byte{2}), api.OK)
	wantFile(t, d, name, "\x01\x02", 1)
	want(t, "Sync of "+name, d.Sync(name), api.OK)
	want(t, "Rename from "+name, d.Rename(name, "q.q"), api.OK)
	want(t, "Rename to "+name, d.Rename("q.q", name), api.OK)
	wantFile(t, d, name, "\x01\x02", 0)
	want(t, "Delete of "+name, d.Delete(name), api.OK)
	wantNothing(t, d, name, api.ErrNone)
}

func checkBadName(t *testing.T, name string) {
	d := made(t, appendCall("a", "1"), armCall(1), syncCall("a"))
	what := fmt.Sprintf("%q", name)
	x, e := drive.Load([]string{name}, [][]byte{{1}})
	want(t, "Load of "+what, e, api.ErrName)
	if x != nil {
		t.Errorf("P2.1: Load of %s: a drive beside an error", what)
	}
	want(t, "Append to "+what, d.Append(name, make([]byte, 262145)), api.ErrName)
	want(t, "Sync of "+what, d.Sync(name), api.ErrName)
	want(t, "Rename from "+what, d.Rename(name, "a"), api.ErrName)
	want(t, "Rename to "+what, d.Rename("a", name), api.ErrName)
	want(t, "Rename of none to "+what, d.Rename("b", name), api.ErrName)
	want(t, "Rename of itself "+what, d.Rename(name, name), api.ErrName)
	want(t, "Delete of "+what, d.Delete(name), api.ErrName)
	wantNothing(t, d, name, api.ErrName)
}

func TestErrorsInTheirOrder(t *testing.T) {
	dead := full(t)
	want(t, "Arm(0)", dead.Arm(0), api.OK)
	long := make([]byte, 262145)
	want(t, "Append, full and dead", dead.Append("new", nil), api.ErrFull)
	want(t, "Append, long and dead", dead.Append("f1", long), api.ErrFull)
	want(t, "Append, dead", dead.Append("f1", nil), api.ErrDead)
	want(t, "Sync, none and dead", dead.Sync("new"), api.ErrNone)
	want(t, "Sync, dead", dead.Sync("f1"), api.ErrDead)
	want(t, "Rename, none and dead", dead.Rename("new", "f1"), api.ErrNone)
	want(t, "Rename to itself, none and dead", dead.Rename("new", "new"), api.ErrNone)
	want(t, "Rename, dead", dead.Rename("f1", "new"), api.ErrDead)
	want(t, "Rename to itself, dead", dead.Rename("f1", "f1"), api.ErrDead)
	want(t, "Delete, none and dead", dead.Delete("new"), api.ErrNone)
	want(t, "Delete, dead", dead.Delete("f1"), api.ErrDead)
	want(t, "Arm, negative and dead", dead.Arm(-1), api.ErrRange)
	want(t, "Arm, dead", dead.Arm(3), api.ErrDead)
	if dead.Steps() != 256 || len(dead.Names()) != 256 {
		t.Errorf("P2.1: errors changed the drive: %d steps, %d files", dead.Steps(), len(dead.Names()))
	}
}

func TestLoadErrorsInTheirOrder(t *testing.T) {
	many := make([]string, 257)
	for i := range many {
		many[i] = fmt.Sprint("f", i)
	}
	twice := append(slices.Clone(many), "f256")
	long := make([]byte, 262145)
	for _, c := range []struct {
		what  string
		names []string
		files [][]byte
		code  api.Errno
	}{
		{"fewer files", []string{"a"}, nil, api.ErrRange},
		{"fewer names", nil, [][]byte{nil}, api.ErrRange},
		{"fewer files, wrong names", []string{"A", "A"}, [][]byte{long}, api.ErrRange},
		{"a wrong name behind one twice", []string{"a", "a", "B"}, make([][]byte, 3), api.ErrName},
		{"a wrong name twice", []string{"B", "B"}, make([][]byte, 2), api.ErrName},
		{"a wrong name, a long file", []string{"a", ""}, [][]byte{long, nil}, api.ErrName},
		{"a name twice, a long file", []string{"a", "b", "a"}, [][]byte{long, nil, nil}, api.ErrTwice},
		{"a name twice, many files", twice, make([][]byte, 258), api.ErrTwice},
		{"a long file", []string{"a", "b"}, [][]byte{nil, long}, api.ErrFull},
		{"many files", many, make([][]byte, 257), api.ErrFull},
		{"no files", nil, nil, api.OK},
		{"as many files as there may be", many[:256], make([][]byte, 256), api.OK},
		{"a file as long as it may be", []string{"a"}, [][]byte{long[:262144]}, api.OK},
	} {
		d, e := drive.Load(c.names, c.files)
		want(t, "Load of "+c.what, e, c.code)
		if (d == nil) != (c.code != api.OK) {
			t.Errorf("P2.1: Load of %s: a drive: %t", c.what, d != nil)
		}
	}
}

func TestLoadedFilesAreSynced(t *testing.T) {
	d, e := drive.Load([]string{"b", "c", "a"}, [][]byte{{1}, nil, {2, 3}})
	want(t, "Load", e, api.OK)
	if !slices.Equal(d.Names(), []string{"a", "b", "c"}) || d.Steps() != 0 || d.Dead() {
		t.Errorf("P2.1: Load: %v, %d, %t", d.Names(), d.Steps(), d.Dead())
	}
	wantFile(t, d, "a", "\x02\x03", 0)
	wantFile(t, d, "b", "\x01", 0)
	wantFile(t, d, "c", "", 0)
	want(t, "Append", d.Append("b", []byte{4}), api.OK)
	wantFile(t, d, "b", "\x01\x04", 1)
	wantFile(t, d.Crash(nil), "b", "\x01", 0)
}

func TestAFileHasItsGreatestSize(t *testing.T) {
	most := strings.Repeat("m", 262144)
	d := made(t, appendCall("a", most[1:]))
	want(t, "Append of two", d.Append("a", []byte("nn")), api.ErrFull)
	want(t, "Append of many", d.Append("a", []byte(most)), api.ErrFull)
	wantFile(t, d, "a", most[1:], 262143)
	want(t, "Append of one", d.Append("a", []byte("m")), api.OK)
	wantFile(t, d, "a", most, 262144)
	want(t, "Append of none", d.Append("a", nil), api.OK)
	want(t, "Append of one more", d.Append("a", []byte("n")), api.ErrFull)
	want(t, "Append of too many to none", d.Append("b", []byte(most+"n")), api.ErrFull)
	want(t, "Append of all to none", d.Append("c", []byte(most)), api.OK)
	if !slices.Equal(d.Names(), []string{"a", "c"}) || d.Steps() != 4 {
		t.Errorf("P2.1: ErrFull: %v, %d steps", d.Names(), d.Steps())
	}
}

func TestADriveHasItsGreatestNumberOfFiles(t *testing.T) {
	d := full(t)
	want(t, "Append to one more", d.Append("new", nil), api.ErrFull)
	want(t, "Append to one of them", d.Append("f255", []byte("1")), api.OK)
	want(t, "Rename", d.Rename("f0", "new"), api.OK)
	want(t, "Append to the old name", d.Append("f0", nil), api.ErrFull)
	want(t, "Rename onto another", d.Rename("new", "f1"), api.OK)
	want(t, "Append where there is room", d.Append("f0", nil), api.OK)
	want(t, "Delete", d.Delete("f7"), api.OK)
	want(t, "Append where there is room", d.Append("f7", []byte("2")), api.OK)
	want(t, "Append to one more", d.Append("new", nil), api.ErrFull)
	if len(d.Names()) != 256 || len(d.Crash(nil).Names()) != 256 {
		t.Errorf("P2.1: %d files", len(d.Names()))
	}
}

func TestNamesIncrease(t *testing.T) {
	d := drive.New()
	for _, name := range []string{"b", "a", "ab", "a-", "a.", "a0", "z", "-", ".", "9", "10"} {
		want(t, "Append", d.Append(name, nil), api.OK)
	}
	sorted := []string{"-", ".", "10", "9", "a", "a-", "a.", "a0", "ab", "b", "z"}
	for range 20 {
		if got := d.Names(); !slices.Equal(got, sorted) {
			t.Fatalf("P2.1: Names: %v, want %v", got, sorted)
		}
	}
}

func TestSyncTakesWhatIsThereByThen(t *testing.T) {
	d := made(t, appendCall("a", "12"), syncCall("a"), syncCall("a"), appendCall("a", "3"), appendCall("a", ""), appendCall("b", "4"))
	wantFile(t, d, "a", "123", 1)
	wantFile(t, d, "b", "4", 1)
	want(t, "Sync", d.Sync("b"), api.OK)
	wantFile(t, d, "a", "123", 1)
	wantFile(t, d, "b", "4", 0)
	if d.Steps() != 7 {
		t.Errorf("P2.1: %d steps, want 7", d.Steps())
	}
}

func TestRename(t *testing.T) {
	d := made(t, appendCall("a", "12"), syncCall("a"), appendCall("a", "345"), appendCall("b", "6"), syncCall("b"), renameCall("a", "a"))
	wantFile(t, d, "a", "12345", 3)
	want(t, "Rename to a new name", d.Rename("a", "c"), api.OK)
	wantNothing(t, d, "a", api.ErrNone)
	wantFile(t, d, "c", "12345", 3)
	want(t, "Rename onto another", d.Rename("c", "b"), api.OK)
	wantNothing(t, d, "c", api.ErrNone)
	wantFile(t, d, "b", "12345", 3)
	wantFile(t, d.Crash([]int{1}), "b", "123", 0)
	want(t, "Append to the old name", d.Append("c", []byte("7")), api.OK)
	wantFile(t, d, "b", "12345", 3)
	wantFile(t, d, "c", "7", 1)
	if d.Steps() != 9 {
		t.Errorf("P2.1: %d steps, want 9", d.Steps())
	}
}

func TestDelete(t *testing.T) {
	d := made(t, appendCall("a", "12"), syncCall("a"), appendCall("b", "3"), deleteCall("a"))
	wantNothing(t, d, "a", api.ErrNone)
	wantNothing(t, d.Crash([]int{9, 9}), "a", api.ErrNone)
	want(t, "Append", d.Append("a", []byte("4")), api.OK)
	wantFile(t, d, "a", "4", 1)
	wantFile(t, d.Crash(nil), "a", "", 0)
}

func TestArm(t *testing.T) {
	d := made(t, appendCall("a", "1"), armCall(2), armCall(3), syncCall("a"))
	want(t, "Arm(-1)", d.Arm(-1), api.ErrRange)
	want(t, "Arm of the least number", d.Arm(math.MinInt), api.ErrRange)
	want(t, "Sync of none", d.Sync("x"), api.ErrNone)
	want(t, "Append", d.Append("a", nil), api.OK)
	if d.Dead() {
		t.Error("P2.1: dead with a step left")
	}
	want(t, "Rename", d.Rename("a", "a"), api.OK)
	if !d.Dead() || d.Steps() != 4 {
		t.Errorf("P2.1: Dead %t after %d steps", d.Dead(), d.Steps())
	}
	for range 3 {
		want(t, "Delete", d.Delete("a"), api.ErrDead)
		want(t, "Append to none", d.Append("b", []byte("2")), api.ErrDead)
	}
	wantFile(t, d, "a", "1", 0)
	wantNothing(t, d, "b", api.ErrNone)
	if !d.Dead() || d.Steps() != 4 || !slices.Equal(d.Names(), []string{"a"}) {
		t.Errorf("P2.1: a dead drive: %t, %d, %v", d.Dead(), d.Steps(), d.Names())
	}
}

func TestArmGreatly(t *testing.T) {
	d := made(t, armCall(math.MaxInt), appendCall("a", "1"))
	if d.Dead() {
		t.Error("P2.1: dead with steps left")
	}
	want(t, "Arm(0)", d.Arm(0), api.OK)
	if !d.Dead() {
		t.Error("P2.1: not dead without a step left")
	}
}

func TestCrashOfADeadDrive(t *testing.T) {
	d := made(t, appendCall("a", "12"), armCall(1), syncCall("a"))
	x := d.Crash(nil)
	if x.Dead() || x.Steps() != 0 || !d.Dead() || d.Steps() != 2 {
		t.Errorf("P2.1: Crash: %t, %d; the dead one: %t, %d", x.Dead(), x.Steps(), d.Dead(), d.Steps())
	}
	for range 3 {
		want(t, "Append after Crash", x.Append("a", []byte("3")), api.OK)
	}
	if x.Dead() || x.Steps() != 3 {
		t.Errorf("P2.1: after Crash: %t, %d", x.Dead(), x.Steps())
	}
	y := made(t, armCall(2), appendCall("a", "1")).Crash(nil)
	want(t, "Sync after Crash", y.Sync("a"), api.OK)
	want(t, "Sync after Crash", y.Sync("a"), api.OK)
}

func TestCrashKeepsWhatItIsTold(t *testing.T) {
	// c is first made and b has nothing loose: the numbers go by the names of a, c, d and f alone.
	d := made(t, appendCall("c", "cc"), appendCall("b", "bb"), syncCall("b"), appendCall("a", "a"), syncCall("a"),
		appendCall("a", "aaa"), appendCall("d", "ddd"), appendCall("e", ""), appendCall("g", "ff"), renameCall("g", "f"))
	for _, c := range []struct {
		keeps            []int
		a, cText, dd, ff string
	}{
		{nil, "a", "", "", ""},
		{[]int{}, "a", "", "", ""},
		{[]int{1, 2, 3, 1}, "aa", "cc", "ddd", "f"},
		{[]int{0, 1, 0, 2}, "a", "c", "", "ff"},
		{[]int{2, -1, 2}, "aaa", "", "dd", ""},
		{[]int{4, 3, 4, 3, 9, 9, 9}, "aaaa", "cc", "ddd", "ff"},
		{[]int{math.MaxInt, math.MaxInt, math.MaxInt, math.MaxInt}, "aaaa", "cc", "ddd", "ff"},
		{[]int{math.MinInt, math.MinInt, math.MaxInt}, "a", "", "ddd", ""},
		{[]int{3}, "aaaa", "", "", ""},
	} {
		x := d.Crash(c.keeps)
		for name, whole := range map[string]string{"a": c.a, "b": "bb", "c": c.cText, "d": c.dd, "e": "", "f": c.ff} {
			wantFile(t, x, name, whole, 0)
		}
		if got := x.Names(); !slices.Equal(got, []string{"a", "b", "c", "d", "e", "f"}) {
			t.Errorf("P2.1: Crash(%v): %v", c.keeps, got)
		}
	}
	wantFile(t, d, "a", "aaaa", 3)
	wantFile(t, d, "c", "cc", 2)
	wantFile(t, d, "f", "ff", 2)
}

func TestDrivesDoNotAffectOneAnother(t *testing.T) {
	d := made(t, appendCall("a", "12"), syncCall("a"), appendCall("a", "3"), appendCall("b", "4"))
	x, y := d.Crash([]int{1, 1}), d.Crash([]int{1, 1})
	want(t, "Append", x.Append("a", []byte("xx")), api.OK)
	want(t, "Append", d.Append("a", []byte("dd")), api.OK)
	want(t, "Append", y.Append("a", []byte("yy")), api.OK)
	want(t, "Delete", x.Delete("b"), api.OK)
	want(t, "Rename", y.Rename("b", "c"), api.OK)
	want(t, "Arm", d.Arm(0), api.OK)
	wantFile(t, d, "a", "123dd", 3)
	wantFile(t, x, "a", "123xx", 2)
	wantFile(t, y, "a", "123yy", 2)
	if !slices.Equal(d.Names(), []string{"a", "b"}) || !slices.Equal(x.Names(), []string{"a"}) || !slices.Equal(y.Names(), []string{"a", "c"}) {
		t.Errorf("P2.2: names: %v, %v, %v", d.Names(), x.Names(), y.Names())
	}
	if !d.Dead() || x.Dead() || y.Dead() || drive.New().Dead() || len(drive.New().Names()) != 0 {
		t.Error("P2.2: a drive is dead or has files because of another")
	}
}

// scribble changes all of a slice, its spare capacity too.
func scribble[T any](s []T, v T) {
	s = s[:cap(s)]
	for i := range s {
		s[i] = v
	}
}

// roomy: a copy with spare capacity, all of which is known.
func roomy[T any](s []T, spare T) []T {
	out := append(slices.Clone(s), slices.Repeat([]T{spare}, 20)...)
	return out[:len(s)]
}

func TestArgumentsAreNeitherModifiedNorRetained(t *testing.T) {
	names, files := roomy([]string{"b", "a"}, "spare"), roomy([][]byte{roomy([]byte("22"), 's'), roomy([]byte("1"), 's')}, nil)
	d, e := drive.Load(names, files)
	want(t, "Load", e, api.OK)
	more := roomy([]byte("345"), 's')
	want(t, "Append", d.Append("a", more), api.OK)
	want(t, "Append", d.Append("c", more), api.OK)
	keeps := roomy([]int{1, 2}, 7)
	x := d.Crash(keeps)
	if !slices.Equal(names[:4], []string{"b", "a", "spare", "spare"}) || !slices.Equal(keeps[:4], []int{1, 2, 7, 7}) ||
		string(files[0][:4]) != "22ss" || string(files[1][:4]) != "1sss" || files[:3][2] != nil || string(more[:5]) != "345ss" {
		t.Errorf("P2.2: arguments were modified: %v, %q, %q, %v", names, files, more, keeps)
	}
	scribble(files[0], 'x')
	scribble(files[1], 'x')
	scribble(files, nil)
	scribble(names, "x")
	scribble(more, 'x')
	scribble(keeps, 9)
	wantFile(t, d, "a", "1345", 3)
	wantFile(t, d, "b", "22", 0)
	wantFile(t, d, "c", "345", 3)
	wantFile(t, x, "a", "13", 0)
	wantFile(t, x, "b", "22", 0)
	wantFile(t, x, "c", "34", 0)
}

func TestAppendLeavesTheSpareCapacityOfArguments(t *testing.T) {
	room := roomy([]byte("1"), 's')
	d, e := drive.Load([]string{"a"}, [][]byte{room})
	want(t, "Load", e, api.OK)
	want(t, "Append", d.Append("a", []byte("234")), api.OK)
	first := roomy([]byte("5"), 's')
	want(t, "Append", d.Append("b", first), api.OK)
	want(t, "Append", d.Append("b", []byte("678")), api.OK)
	if string(room[:4]) != "1sss" || string(first[:4]) != "5sss" {
		t.Errorf("P2.2: the spare capacity of arguments was modified: %q, %q", room[:4], first[:4])
	}
}

func TestResultsAreNewMemory(t *testing.T) {
	d := made(t, appendCall("a", "12"), syncCall("a"), appendCall("a", "3"), appendCall("b", "4"))
	first, _ := d.Read("a")
	second, _ := d.Read("a")
	names, others := d.Names(), d.Names()
	scribble(first, 'x')
	scribble(names, "x")
	if string(second) != "123" || !slices.Equal(others, []string{"a", "b"}) {
		t.Errorf("P2.2: results share memory: %q, %v", second, others)
	}
	want(t, "Append", d.Append("a", []byte("5")), api.OK)
	scribble(second, 'y')
	wantFile(t, d, "a", "1235", 2)
	if !slices.Equal(d.Names(), []string{"a", "b"}) {
		t.Errorf("P2.2: Names: %v", d.Names())
	}
	before, _ := d.Read("a")
	want(t, "Append", d.Append("a", []byte("6")), api.OK)
	if spare := before[:cap(before)]; !bytes.Equal(before, []byte("1235")) || bytes.ContainsRune(spare[len(before):], '6') {
		t.Errorf("P2.2: a later Append is to be seen in a result: %q", spare)
	}
}
