package vfs_test

import (
	"bytes"
	"maps"
	"math"
	"math/rand"
	"slices"
	"strconv"
	"strings"
	"testing"

	"towline/api"
	"towline/path"
	"towline/vfs"
)

// disk is what a file system can do.
type disk interface {
	Used() int
	Left() int
	List() []string
	Read(name string) ([]byte, api.Errno)
	Create(name string) api.Errno
	Append(name string, b []byte) api.Errno
	Cut(name string, size int) api.Errno
	Sync(name string) api.Errno
	Rename(from, to string) api.Errno
	Remove(name string) api.Errno
	Flush() api.Errno
	Crash(acts, bytes int)
	Steps() int
	Stop(steps int)
}

// made: a new file system.
func made(t *testing.T, room int) *vfs.FS {
	t.Helper()
	s, e := vfs.New(room)
	if e != api.OK || s == nil {
		t.Fatalf("New(%d): %v", room, e)
	}
	return s
}

// ask: does what a line says, as `append a xy`.
func ask(d disk, line string) api.Errno {
	w := append(strings.Split(line, " "), "", "")
	number := func(i int) int { n, _ := strconv.Atoi(w[i]); return n }
	switch w[0] {
	case "create":
		return d.Create(w[1])
	case "append":
		return d.Append(w[1], []byte(w[2]))
	case "cut":
		return d.Cut(w[1], number(2))
	case "sync":
		return d.Sync(w[1])
	case "rename":
		return d.Rename(w[1], w[2])
	case "remove":
		return d.Remove(w[1])
	case "flush":
		return d.Flush()
	case "crash":
		d.Crash(number(1), number(2))
	case "stop":
		d.Stop(number(1))
	default:
		panic(line)
	}
	return api.OK
}

// does: all lines, none of which has an error.
func does(t *testing.T, d disk, lines ...string) {
	t.Helper()
	for _, line := range lines {
		if e := ask(d, line); e != api.OK {
			t.Fatalf("%s: %v", line, e)
		}
	}
}

// refuses: a call has that error, and changes nothing.
func refuses(t *testing.T, d disk, line string, want api.Errno) {
	t.Helper()
	was := show(d)
	if e := ask(d, line); e != want {
		t.Errorf("%s: %v, not %v", line, e, want)
	}
	if is := show(d); is != was {
		t.Errorf("%s: %s became %s", line, was, is)
	}
}

// files: the files with their bytes, as `a=xy b=`.
func files(d disk) string {
	var l []string
	for _, name := range d.List() {
		b, e := d.Read(name)
		if e != api.OK {
			l = append(l, name+" "+e.Error())
			continue
		}
		l = append(l, name+"="+string(b))
	}
	return strings.Join(l, " ")
}

// show: all that a file system tells.
func show(d disk) string {
	return files(d) + " used " + strconv.Itoa(d.Used()) + " left " + strconv.Itoa(d.Left()) + " steps " + strconv.Itoa(d.Steps())
}

// has: just these files.
func has(t *testing.T, d disk, want string) {
	t.Helper()
	if got := files(d); got != want {
		t.Errorf("files %s, not %s", got, want)
	}
	used := 0
	for _, name := range d.List() {
		b, _ := d.Read(name)
		used += len(b)
	}
	if d.Used() != used {
		t.Errorf("Used %d, not %d", d.Used(), used)
	}
}

// P14.1

func TestNew(t *testing.T) {
	for _, room := range []int{0, 1, 1000, api.MaxDisk - 1, api.MaxDisk} {
		s := made(t, room)
		if l := s.List(); len(l) != 0 || s.Used() != 0 || s.Left() != room || s.Steps() != 0 {
			t.Errorf("New(%d): %s", room, show(s))
		}
	}
	for _, room := range []int{-1, api.MaxDisk + 1, math.MinInt, math.MaxInt} {
		if s, e := vfs.New(room); e != api.ErrRange || s != nil {
			t.Errorf("New(%d): %v", room, e)
		}
	}
}

func TestListIsInTheOrderOfBytes(t *testing.T) {
	want := []string{"A", "a", "a b", "a.b", "a/b", "aa", "b", "é", "\xff"}
	s := made(t, 100)
	for _, i := range rand.New(rand.NewSource(1)).Perm(len(want)) {
		does(t, s, "flush")
		if e := s.Create(want[i]); e != api.OK {
			t.Fatalf("Create(%q): %v", want[i], e)
		}
	}
	if l := s.List(); !slices.Equal(l, want) {
		t.Errorf("List %q", l)
	}
}

func TestReadUsedAndLeft(t *testing.T) {
	s := made(t, 10)
	does(t, s, "create a", "append a xy", "create b", "create a/b", "append a/b z", "append a zz")
	has(t, s, "a=xyzz a/b=z b=")
	if s.Used() != 5 || s.Left() != 5 {
		t.Error(show(s))
	}
	if b, e := s.Read("b"); e != api.OK || len(b) != 0 {
		t.Errorf("Read of an empty file: %q %v", b, e)
	}
	for _, name := range []string{"", "c", "a/", "/a", "A", "a/b/c", strings.Repeat("a", 1000)} {
		if b, e := s.Read(name); e != api.ErrMissing || b != nil {
			t.Errorf("Read(%q): %q %v", name, b, e)
		}
	}
}

func TestForkHasAllFilesDurable(t *testing.T) {
	s := made(t, 10)
	does(t, s, "create a", "append a xy", "flush", "rename a b", "create c", "append c z", "stop 0")
	f := s.Fork()
	if f.Steps() != 0 || f.Used() != 3 || f.Left() != 7 {
		t.Error(show(f))
	}
	f.Crash(0, 0)
	has(t, f, "b=xy c=z")
	does(t, f, "append b 1234567")
	refuses(t, f, "append b 8", api.ErrFull)
	has(t, s, "b=xy c=z")
	refuses(t, s, "flush", api.ErrCut)
	s.Crash(0, 0)
	has(t, s, "a=")
}

func TestForkGoesOnByItself(t *testing.T) {
	lines := []string{"append a 1", "cut a 1", "sync a", "rename a b", "remove a", "create c", "flush", "stop 0", "crash 0 0"}
	for _, line := range lines {
		s := made(t, 20)
		does(t, s, "create a", "append a xy", "create b", "append b z")
		f := s.Fork()
		was := show(s)
		does(t, f, line, "crash 0 0")
		if is := show(s); is != was {
			t.Errorf("%s of the fork: %s became %s", line, was, is)
		}
		f = s.Fork()
		was = show(f)
		does(t, s, line)
		if is := show(f); is != was {
			t.Errorf("%s: the fork's %s became %s", line, was, is)
		}
		does(t, f, "append a q", "append b r", "append b r")
		has(t, f, "a=xyq b=zrr")
	}
}

func TestForksOfOneFileAppendEachItsOwn(t *testing.T) {
	s := made(t, 1000)
	does(t, s, "create a")
	for range 100 {
		does(t, s, "append a x")
		f := s.Fork()
		g := f.Fork()
		does(t, f, "append a f")
		does(t, g, "append a g")
		if b, _ := f.Read("a"); b[len(b)-1] != 'f' {
			t.Fatal("the fork's byte is another's")
		}
		if b, _ := g.Read("a"); b[len(b)-1] != 'g' {
			t.Fatal("the fork's fork's byte is another's")
		}
	}
	if b, _ := s.Read("a"); string(b) != strings.Repeat("x", 100) {
		t.Errorf("the file has %q", b)
	}
}

// P14.2

// wrongNames: texts that are no paths.
var wrongNames = map[string]api.Errno{
	"":                         api.ErrPath,
	".":                        api.ErrPath,
	"a//b":                     api.ErrPath,
	"/a":                       api.ErrPath,
	"a/":                       api.ErrPath,
	"a/..":                     api.ErrPath,
	"a\n":                      api.ErrPath,
	"\x7f":                     api.ErrPath,
	strings.Repeat("a", 65):    api.ErrPath,
	strings.Repeat("a", 256):   api.ErrLong,
	strings.Repeat("/", 16):    api.ErrLong,
	strings.Repeat("a/", 15):   api.ErrPath,
	strings.Repeat("//", 1000): api.ErrLong,
}

func TestCreate(t *testing.T) {
	s := made(t, 10)
	deep := strings.Repeat("a/", 15) + "a"
	for _, name := range []string{"a", "a/b", "a b", "\xff", strings.Repeat("a", 64), deep} {
		if e := s.Create(name); e != api.OK {
			t.Errorf("Create(%q): %v", name, e)
		}
		if b, e := s.Read(name); e != api.OK || len(b) != 0 {
			t.Errorf("Read(%q): %q %v", name, b, e)
		}
		if e := s.Create(name); e != api.ErrTwice {
			t.Errorf("Create(%q) once more: %v", name, e)
		}
	}
	was := show(s)
	for name, want := range wrongNames {
		if e := s.Create(name); e != want || e != path.Check(name) {
			t.Errorf("Create(%q): %v, not %v", name, e, want)
		}
	}
	if is := show(s); is != was {
		t.Errorf("%s became %s", was, is)
	}
}

func TestCreateLeavesTheFileThatIsThere(t *testing.T) {
	s := made(t, 10)
	does(t, s, "create a", "append a xy", "sync a", "flush")
	refuses(t, s, "create a", api.ErrTwice)
	s.Crash(1, 1)
	has(t, s, "a=xy")
}

func TestAppend(t *testing.T) {
	s := made(t, 5)
	does(t, s, "create a", "create b")
	refuses(t, s, "append c x", api.ErrMissing)
	refuses(t, s, "append c 123456", api.ErrMissing)
	refuses(t, s, "append a 123456", api.ErrFull)
	does(t, s, "append a 12", "append b 3")
	refuses(t, s, "append a 345", api.ErrFull)
	does(t, s, "append a 45", "append a ", "append b ")
	has(t, s, "a=1245 b=3")
	refuses(t, s, "append b 6", api.ErrFull)
	if e := s.Append("a", nil); e != api.OK {
		t.Errorf("Append of nothing: %v", e)
	}
	does(t, s, "remove a", "append b 6789")
	has(t, s, "b=36789")
}

func TestAppendToTheWholeDisk(t *testing.T) {
	s := made(t, api.MaxDisk)
	does(t, s, "create a")
	if e := s.Append("a", make([]byte, api.MaxDisk+1)); e != api.ErrFull {
		t.Errorf("too much: %v", e)
	}
	if e := s.Append("a", make([]byte, api.MaxDisk)); e != api.OK || s.Left() != 0 || s.Used() != api.MaxDisk {
		t.Errorf("all of it: %v", e)
	}
}

func TestCut(t *testing.T) {
	s := made(t, 10)
	does(t, s, "create a", "append a 123456", "create b", "append b xy")
	refuses(t, s, "cut c 0", api.ErrMissing)
	refuses(t, s, "cut c -1", api.ErrMissing)
	for _, size := range []int{-1, 7, math.MinInt, math.MaxInt} {
		refuses(t, s, "cut a "+strconv.Itoa(size), api.ErrRange)
	}
	does(t, s, "cut a 6")
	has(t, s, "a=123456 b=xy")
	does(t, s, "cut a 2")
	has(t, s, "a=12 b=xy")
	refuses(t, s, "cut a 3", api.ErrRange)
	does(t, s, "append a 78", "append b z")
	has(t, s, "a=1278 b=xyz")
	does(t, s, "cut a 0", "cut a 0")
	has(t, s, "a= b=xyz")
}

func TestCutBytesAreDurable(t *testing.T) {
	for _, lines := range [][]string{
		{"append a 123", "cut a 2"},
		{"append a 12", "cut a 2"},
		{"append a 123", "sync a", "cut a 2"},
		{"append a 1", "sync a", "append a 23", "cut a 2", "append a 4"},
	} {
		s := made(t, 10)
		does(t, s, "create a", "flush")
		does(t, s, lines...)
		s.Crash(0, 0)
		has(t, s, "a=12")
	}
}

func TestSync(t *testing.T) {
	s := made(t, 10)
	does(t, s, "create a", "create b", "flush", "append a xy", "append b xy", "sync a", "append a z")
	refuses(t, s, "sync c", api.ErrMissing)
	has(t, s, "a=xyz b=xy")
	s.Crash(0, 0)
	has(t, s, "a=xy b=")
}

// P14.3

func TestRename(t *testing.T) {
	s := made(t, 10)
	does(t, s, "create a", "append a xy", "create b", "append b 123", "rename a c")
	has(t, s, "b=123 c=xy")
	refuses(t, s, "append a z", api.ErrMissing)
	does(t, s, "rename b c")
	has(t, s, "c=123")
	if s.Left() != 7 {
		t.Errorf("Left %d", s.Left())
	}
	does(t, s, "append c 4567890", "rename c a/b", "create c")
	has(t, s, "a/b=1234567890 c=")
}

func TestRenameRefuses(t *testing.T) {
	s := made(t, 10)
	does(t, s, "create a", "append a xy", "create b")
	refuses(t, s, "rename c b", api.ErrMissing)
	refuses(t, s, "rename c c", api.ErrMissing)
	refuses(t, s, "rename c ", api.ErrMissing)
	refuses(t, s, "rename  ", api.ErrMissing)
	refuses(t, s, "rename a a", api.ErrTwice)
	was := show(s)
	for name, want := range wrongNames {
		if e := s.Rename("a", name); e != want {
			t.Errorf("Rename to %q: %v, not %v", name, e, want)
		}
	}
	if is := show(s); is != was {
		t.Errorf("%s became %s", was, is)
	}
}

func TestRemove(t *testing.T) {
	s := made(t, 10)
	does(t, s, "create a", "append a xy", "create b", "append b z")
	refuses(t, s, "remove c", api.ErrMissing)
	refuses(t, s, "remove ", api.ErrMissing)
	does(t, s, "remove a")
	has(t, s, "b=z")
	refuses(t, s, "remove a", api.ErrMissing)
	does(t, s, "create a")
	has(t, s, "a= b=z")
}

func TestFlush(t *testing.T) {
	s := made(t, 10)
	does(t, s, "flush", "create a", "create b", "create c", "rename a d", "remove b", "flush", "create e", "remove c")
	s.Crash(0, 0)
	has(t, s, "c= d=")
}

func TestFlushLeavesBytesAsDurableAsTheyAre(t *testing.T) {
	s := made(t, 10)
	does(t, s, "create a", "append a xy", "flush")
	s.Crash(0, 0)
	has(t, s, "a=")
	does(t, s, "create b", "append b xy", "sync b")
	s.Crash(0, 0)
	has(t, s, "a=")
}

// P14.4

// eachStep: one step of each kind, all of which a file system with a (two bytes) and b can do, one by one.
var eachStep = []string{"create c", "append a z", "append a ", "cut a 1", "cut a 2", "sync a", "rename a b", "rename a c", "remove a", "flush"}

// twoFiles: such a file system.
func twoFiles(t *testing.T) *vfs.FS {
	s := made(t, 10)
	does(t, s, "create a", "append a xy", "create b")
	return s
}

func TestStepsThatAreDoneAreCounted(t *testing.T) {
	for _, line := range eachStep {
		s := twoFiles(t)
		does(t, s, line)
		if s.Steps() != 4 {
			t.Errorf("%s: %d steps", line, s.Steps())
		}
	}
	s := twoFiles(t)
	for _, line := range []string{"create a", "create ", "append c x", "append a 123456789", "cut c 0", "cut a 3", "sync c", "rename c d", "rename a ", "rename a a", "remove c"} {
		ask(s, line)
	}
	does(t, s, "stop 5", "crash 9 9")
	if s.Steps() != 3 {
		t.Errorf("%d steps", s.Steps())
	}
}

func TestBehindStopAllStepsAreRefused(t *testing.T) {
	for _, line := range eachStep {
		s := twoFiles(t)
		s.Stop(0)
		refuses(t, s, line, api.ErrCut)
		s.Crash(9, 9)
		has(t, s, "a=xy b=")
		does(t, s, line)
		s = twoFiles(t)
		s.Stop(1)
		does(t, s, line)
		refuses(t, s, "flush", api.ErrCut)
	}
}

func TestWhatIsRefusedIsNotDurable(t *testing.T) {
	s := twoFiles(t)
	does(t, s, "flush", "create c", "stop 0")
	for _, line := range []string{"sync a", "cut a 2", "flush"} {
		refuses(t, s, line, api.ErrCut)
	}
	s.Crash(0, 0)
	has(t, s, "a= b=")
}

func TestOtherErrorsAreAskedAheadOfThePower(t *testing.T) {
	s := twoFiles(t)
	s.Stop(0)
	for line, want := range map[string]api.Errno{
		"create a": api.ErrTwice, "create ": api.ErrPath, "append c x": api.ErrMissing, "append a 123456789": api.ErrFull,
		"cut c 0": api.ErrMissing, "cut a 3": api.ErrRange, "sync c": api.ErrMissing, "rename c d": api.ErrMissing,
		"rename a ": api.ErrPath, "rename a a": api.ErrTwice, "remove c": api.ErrMissing,
	} {
		refuses(t, s, line, want)
	}
}

func TestStopCountsWhatIsDone(t *testing.T) {
	s := twoFiles(t)
	s.Stop(3)
	refuses(t, s, "remove c", api.ErrMissing)
	does(t, s, "append a z")
	refuses(t, s, "create a", api.ErrTwice)
	does(t, s, "sync a", "flush")
	refuses(t, s, "flush", api.ErrCut)
	refuses(t, s, "append a z", api.ErrCut)
	if b, e := s.Read("a"); e != api.OK || string(b) != "xyz" || s.Steps() != 6 {
		t.Errorf("without power: %q %v", b, e)
	}
}

func TestTheLastStopHolds(t *testing.T) {
	s := twoFiles(t)
	does(t, s, "stop 0", "stop 1", "flush")
	refuses(t, s, "flush", api.ErrCut)
	for _, n := range []int{-1, -2, math.MinInt, math.MaxInt} {
		s.Stop(0)
		s.Stop(n)
		for range 100 {
			does(t, s, "flush")
		}
	}
	does(t, s, "stop 1")
	s.Stop(0)
	refuses(t, s, "flush", api.ErrCut)
}

// P14.5

func TestExampleOfACrash(t *testing.T) {
	s := made(t, 10)
	does(t, s, "create a", "append a xy", "sync a", "flush", "rename a b", "append b z")
	s.Crash(0, 0)
	has(t, s, "a=xy")
}

func TestCrashKeepsTheFirstChangesOfNames(t *testing.T) {
	want := []string{"a=1 b=2", "b=2 c=1", "b=1", "", "c=", "c= d=", "c= e=", "c="}
	for acts := -1; acts < 10; acts++ {
		s := made(t, 10)
		does(t, s, "create a", "append a 1", "create b", "append b 2", "flush", "sync a", "sync b")
		does(t, s, "rename a c", "rename c b", "remove b", "create c", "create d", "rename d e", "remove e")
		s.Crash(acts, 0)
		has(t, s, want[min(max(acts, 0), len(want)-1)])
	}
	for acts, want := range map[int]string{math.MinInt: "a=", math.MaxInt: "b="} {
		s := made(t, 10)
		does(t, s, "create a", "flush", "rename a b")
		s.Crash(acts, 0)
		has(t, s, want)
	}
}

func TestCrashKeepsTheFirstBytesOfEachFile(t *testing.T) {
	want := []string{"a=12 b= c=x", "a=123 b=y c=x", "a=1234 b=yz c=x", "a=12345 b=yz c=x"}
	for n := -1; n < 6; n++ {
		s := made(t, 20)
		does(t, s, "create a", "append a 12", "sync a", "append a 345", "create b", "append b yz", "create c", "append c x", "sync c", "flush")
		s.Crash(0, n)
		has(t, s, want[min(max(n, 0), len(want)-1)])
	}
	for n, want := range map[int]string{math.MinInt: "a=x", math.MaxInt: "a=xyz"} {
		s := made(t, 20)
		does(t, s, "create a", "append a x", "sync a", "append a yz", "flush")
		s.Crash(0, n)
		has(t, s, want)
	}
}

func TestBytesBelongToAFileWhateverItsName(t *testing.T) {
	s := made(t, 20)
	does(t, s, "create a", "flush", "rename a b", "append b xy", "sync b", "append b z", "create a", "append a 1", "sync a")
	f := made(t, 20)
	does(t, f, "create a", "flush", "rename a b", "append b xy", "sync b", "append b z", "create a", "append a 1", "sync a")
	s.Crash(0, 0)
	has(t, s, "a=xy")
	f.Crash(2, 1)
	has(t, f, "a=1 b=xyz")
}

func TestAFileThatWasGoneIsBack(t *testing.T) {
	s := made(t, 20)
	does(t, s, "create a", "append a xy", "sync a", "create b", "append b 12", "flush", "append a z", "remove a", "rename b c", "remove c")
	has(t, s, "")
	s.Crash(1, 1)
	has(t, s, "b=1")
	s = made(t, 20)
	does(t, s, "create a", "append a xy", "sync a", "flush", "append a z", "remove a", "create a", "append a 1")
	s.Crash(0, 7)
	has(t, s, "a=xyz")
}

func TestAllThatACrashLeavesIsDurable(t *testing.T) {
	s := made(t, 20)
	does(t, s, "create a", "append a xyz", "rename a b", "create c", "crash 2 2", "crash 0 0")
	has(t, s, "b=xy")
	does(t, s, "append b q", "rename b c", "crash 0 0")
	has(t, s, "b=xy")
	does(t, s, "crash 9 9")
	has(t, s, "b=xy")
}

func TestACrashEndsStop(t *testing.T) {
	s := made(t, 20)
	does(t, s, "stop 0", "crash 0 0")
	for range 100 {
		does(t, s, "flush")
	}
	does(t, s, "stop 1", "crash 0 0", "flush", "flush")
	if s.Steps() != 102 {
		t.Errorf("%d steps", s.Steps())
	}
}

func TestACrashMayBringBackMoreThanThereIsRoomFor(t *testing.T) {
	s := made(t, 10)
	does(t, s, "create a", "append a 1234567", "sync a", "create b", "flush", "remove a", "append b 12345678", "sync b", "crash 0 0")
	has(t, s, "a=1234567 b=12345678")
	if s.Left() != -5 {
		t.Errorf("Left %d", s.Left())
	}
	refuses(t, s, "append a ", api.ErrFull)
	f := s.Fork()
	has(t, f, "a=1234567 b=12345678")
	if f.Left() != -5 {
		t.Errorf("the fork's Left %d", f.Left())
	}
	does(t, s, "cut a 2", "append a ")
	refuses(t, s, "append a 3", api.ErrFull)
}

// All of it, held against a reckoning from the words

// model is a file system that keeps the names as they were behind each change that isn't durable.
type model struct {
	room, steps, more int
	history           []map[string]*modelFile // the first: the names that are durable
}

type modelFile struct {
	text    string
	durable int
}

func newModel(room int) *model {
	return &model{room: room, more: -1, history: []map[string]*modelFile{{}}}
}

func (m *model) now() map[string]*modelFile { return m.history[len(m.history)-1] }

func (m *model) Used() int {
	n := 0
	for _, f := range m.now() {
		n += len(f.text)
	}
	return n
}

func (m *model) Left() int { return m.room - m.Used() }

func (m *model) Steps() int { return m.steps }

func (m *model) Stop(steps int) { m.more = steps }

func (m *model) List() []string {
	var l []string
	for name := range m.now() {
		l = append(l, name)
	}
	slices.Sort(l)
	return l
}

func (m *model) Read(name string) ([]byte, api.Errno) {
	if f, ok := m.now()[name]; ok {
		return []byte(f.text), api.OK
	}
	return nil, api.ErrMissing
}

// step: the first of the errors that apply, or ErrCut, or else it is done.
func (m *model) step(do func(), errors ...api.Errno) api.Errno {
	for _, e := range errors {
		if e != api.OK {
			return e
		}
	}
	if m.more == 0 {
		return api.ErrCut
	}
	if m.more > 0 {
		m.more--
	}
	m.steps++
	do()
	return api.OK
}

// when: that error, where something is so.
func when(so bool, e api.Errno) api.Errno {
	if so {
		return e
	}
	return api.OK
}

// change: the names as they are behind a change.
func (m *model) change(do func(names map[string]*modelFile)) func() {
	return func() {
		names := maps.Clone(m.now())
		do(names)
		m.history = append(m.history, names)
	}
}

func (m *model) Create(name string) api.Errno {
	return m.step(m.change(func(names map[string]*modelFile) { names[name] = &modelFile{} }), path.Check(name), when(m.now()[name] != nil, api.ErrTwice))
}

func (m *model) Append(name string, b []byte) api.Errno {
	f := m.now()[name]
	return m.step(func() { f.text += string(b) }, when(f == nil, api.ErrMissing), when(len(b) > m.Left(), api.ErrFull))
}

func (m *model) Cut(name string, size int) api.Errno {
	f := m.now()[name]
	all := 0
	if f != nil {
		all = len(f.text)
	}
	return m.step(func() { f.text, f.durable = f.text[:size], size }, when(f == nil, api.ErrMissing), when(size < 0 || size > all, api.ErrRange))
}

func (m *model) Sync(name string) api.Errno {
	f := m.now()[name]
	return m.step(func() { f.durable = len(f.text) }, when(f == nil, api.ErrMissing))
}

func (m *model) Rename(from, to string) api.Errno {
	f := m.now()[from]
	do := m.change(func(names map[string]*modelFile) {
		names[to] = f
		delete(names, from)
	})
	return m.step(do, when(f == nil, api.ErrMissing), path.Check(to), when(from == to, api.ErrTwice))
}

func (m *model) Remove(name string) api.Errno {
	return m.step(m.change(func(names map[string]*modelFile) { delete(names, name) }), when(m.now()[name] == nil, api.ErrMissing))
}

func (m *model) Flush() api.Errno {
	return m.step(func() { m.history = []map[string]*modelFile{m.now()} })
}

func (m *model) Crash(acts, bytes int) {
	kept := m.history[0]
	for i, names := range m.history {
		if i <= acts {
			kept = names
		}
	}
	m.history = []map[string]*modelFile{kept}
	for _, f := range kept {
		for len(f.text) > f.durable && len(f.text)-f.durable > bytes {
			f.text = f.text[:len(f.text)-1]
		}
		f.durable = len(f.text)
	}
	m.more = -1
}

func (m *model) Fork() *model {
	f := newModel(m.room)
	for name, file := range m.now() {
		f.history[0][name] = &modelFile{file.text, len(file.text)}
	}
	return f
}

// anyName: one of a few, seldom a wrong one.
func anyName(r *rand.Rand) string {
	names := []string{"a", "b", "c", "a/b", "d", "e", "", "a//b", "..", strings.Repeat("n", 70), strings.Repeat("n", 300)}
	if r.Intn(20) > 0 {
		return names[r.Intn(6)]
	}
	return names[r.Intn(len(names))]
}

// anyNumber: a small one, seldom a great one or one below 0.
func anyNumber(r *rand.Rand, most int) int {
	switch r.Intn(30) {
	case 0:
		return []int{math.MinInt, math.MaxInt, -1, 1 << 32}[r.Intn(4)]
	case 1:
		return -r.Intn(4)
	}
	return r.Intn(most + 1)
}

// anyLine: some call.
func anyLine(r *rand.Rand) string {
	name := anyName(r)
	switch r.Intn(24) {
	case 0, 1, 2, 3:
		return "create " + name
	case 4, 5, 6, 7, 8, 9:
		return "append " + name + " " + strings.Repeat(string(rune('p'+r.Intn(9))), r.Intn(6))
	case 10, 11:
		return "cut " + name + " " + strconv.Itoa(anyNumber(r, 6))
	case 12, 13, 14:
		return "sync " + name
	case 15, 16, 17:
		return "rename " + name + " " + anyName(r)
	case 18, 19:
		return "remove " + name
	case 20:
		return "flush"
	case 21:
		return "stop " + strconv.Itoa(anyNumber(r, 20))
	}
	return "crash " + strconv.Itoa(anyNumber(r, 6)) + " " + strconv.Itoa(anyNumber(r, 5))
}

// alike: both tell the same behind a line.
func alike(t *testing.T, s *vfs.FS, m *model, line string) {
	t.Helper()
	before := show(m)
	got, want := ask(s, line), ask(m, line)
	if got != want {
		t.Fatalf("%s, behind %s: %v, not %v", line, before, got, want)
	}
	if is, should := show(s), show(m); is != should {
		t.Fatalf("%s, behind %s: %s, not %s", line, before, is, should)
	}
}

func TestManyCallsAgainstTheWords(t *testing.T) {
	r := rand.New(rand.NewSource(14))
	for range 1500 {
		room := []int{0, 5, 12, 40, 1000}[r.Intn(5)]
		s, m := made(t, room), newModel(room)
		for range 120 {
			alike(t, s, m, anyLine(r))
			if r.Intn(60) == 0 { // the one that is left goes on by itself, and is looked at once more
				f, g := s.Fork(), m.Fork()
				for range 5 {
					alike(t, s, m, anyLine(r))
				}
				if is, should := show(s), show(m); is != should {
					t.Fatalf("beside a fork: %s, not %s", is, should)
				}
				s, m = f, g
			}
		}
	}
}

func TestEachCrashOfSomeCallsAgainstTheWords(t *testing.T) {
	r := rand.New(rand.NewSource(15))
	for range 300 {
		var lines []string
		for len(lines) < 25 {
			if line := anyLine(r); !strings.HasPrefix(line, "crash") && !strings.HasPrefix(line, "stop") {
				lines = append(lines, line)
			}
		}
		for acts := -1; acts < 8; acts++ {
			for n := -1; n < 5; n++ {
				s, m := made(t, 30), newModel(30)
				for _, line := range lines {
					ask(s, line)
					ask(m, line)
				}
				alike(t, s, m, "crash "+strconv.Itoa(acts)+" "+strconv.Itoa(n))
				alike(t, s, m, "crash 0 0")
			}
		}
	}
}

func TestThePowerMayGoAtAnyStep(t *testing.T) {
	r := rand.New(rand.NewSource(16))
	for range 300 {
		var lines []string
		for range 30 {
			lines = append(lines, anyLine(r))
		}
		for stop := range 12 {
			s, m := made(t, 30), newModel(30)
			s.Stop(stop)
			m.Stop(stop)
			for _, line := range lines {
				alike(t, s, m, line)
			}
		}
	}
}

// P1

func TestManyFilesEnd(t *testing.T) {
	s := made(t, api.MaxDisk)
	for i := range 100000 {
		name := strconv.Itoa(i)
		if s.Create(name) != api.OK || s.Append(name, []byte("xyz")) != api.OK {
			t.Fatal(name)
		}
	}
	if s.Used() != 300000 || len(s.List()) != 100000 {
		t.Error("not all files are there")
	}
	s.Crash(50000, 1)
	if s.Used() != 50000 || len(s.List()) != 50000 {
		t.Errorf("%d bytes of %d files", s.Used(), len(s.List()))
	}
}

func TestManyStepsEnd(t *testing.T) {
	s := made(t, api.MaxDisk)
	does(t, s, "create a")
	for i := range 200000 {
		if s.Append("a", []byte("0123456789")) != api.OK || s.Sync("a") != api.OK || s.Rename("a", "b") != api.OK || s.Flush() != api.OK || s.Rename("b", "a") != api.OK {
			t.Fatal(i)
		}
	}
	if s.Used() != 2000000 || s.Steps() != 1000001 {
		t.Errorf("%d bytes, %d steps", s.Used(), s.Steps())
	}
}

// P2

func TestAppendNeitherKeepsNorChangesItsBytes(t *testing.T) {
	s := made(t, 100)
	does(t, s, "create a", "create b")
	whole := []byte("abcdefgh")
	part := whole[:3]
	if s.Append("a", part) != api.OK || s.Append("a", []byte("z")) != api.OK || s.Append("b", part) != api.OK || s.Append("b", []byte("y")) != api.OK {
		t.Fatal("Append")
	}
	if string(whole) != "abcdefgh" {
		t.Errorf("the bytes became %q", whole)
	}
	copy(whole, "12345678")
	has(t, s, "a=abcz b=abcy")
}

func TestWhatIsReadIsNewMemory(t *testing.T) {
	s := made(t, 100)
	does(t, s, "create a", "append a abcdef", "append a ghi", "cut a 4")
	first, _ := s.Read("a")
	second, _ := s.Read("a")
	first = first[:cap(first)]
	for i := range first {
		first[i] = '!'
	}
	if string(second) != "abcd" {
		t.Errorf("the other answer became %q", second)
	}
	has(t, s, "a=abcd")
	does(t, s, "append a xy")
	has(t, s, "a=abcdxy")
	if string(second) != "abcd" || !bytes.Equal(first, bytes.Repeat([]byte("!"), len(first))) {
		t.Error("an answer was changed")
	}
}

func TestWhatIsListedIsNewMemory(t *testing.T) {
	s := made(t, 100)
	does(t, s, "create a", "create b")
	first, second := s.List(), s.List()
	first = first[:cap(first)]
	for i := range first {
		first[i] = "!"
	}
	if !slices.Equal(second, []string{"a", "b"}) {
		t.Errorf("the other answer became %q", second)
	}
	has(t, s, "a= b=")
}
