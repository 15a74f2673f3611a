package checkout_test

import (
	"maps"
	"math/rand"
	"slices"
	"strconv"
	"strings"
	"testing"

	"towline/api"
	"towline/checkout"
	"towline/path"
	"towline/snap"
	"towline/store"
	"towline/vfs"
)

// call is one at which the power may go.
type call struct {
	was, is string // the working tree ahead of it, and behind it
	root    api.ID // of a Move
	do      func(fs *vfs.FS) api.Errno
	opens   bool // a store lies there, and is opened ahead of Recover
	shelf   snap.Shelf
}

// how much of what isn't durable a crash keeps.
var (
	someActs  = []int{-1, 1, 2, 3, 5, 100}
	someBytes = []int{-1, 7, 1000}
)

// behind: what is asked behind a crash; the shelf is that of the store, if there is one.
func (c call) behind(t *testing.T, fs *vfs.FS) snap.Shelf {
	t.Helper()
	if !c.opens {
		return c.shelf
	}
	s, e := store.Open(fs)
	does(t, "Open of the store", e)
	return s
}

// anywhere: the call is cut off at each step, a crash keeps as much as it may, and Recover mends it.
func (c call) anywhere(t *testing.T, fs *vfs.FS) {
	t.Helper()
	done := false
	for stop := 0; !done; stop++ {
		for _, acts := range someActs {
			for _, n := range someBytes {
				f := fs.Fork()
				f.Stop(stop)
				e := c.do(f)
				if done = e == api.OK; !done && e != api.ErrCut {
					t.Fatalf("%q to %q: %v", c.was, c.is, e)
				}
				f.Crash(acts, n)
				c.mended(t, f, done, n == 7)
			}
		}
	}
}

// mended: behind a crash Recover does what Pending tells, also (if asked for) where it is cut off itself.
func (c call) mended(t *testing.T, fs *vfs.FS, done, again bool) {
	t.Helper()
	root, pending := checkout.Pending(fs)
	if pending && (done || root != c.root) || !pending && root != zero {
		t.Fatalf("%x is pending: %v", root, pending)
	}
	want := c.is
	if !pending {
		want = there(t, fs)
	}
	if want != c.is && (done || want != c.was) {
		t.Fatalf("%q to %q: %q", c.was, c.is, want)
	}
	if again {
		c.cutAgain(t, fs, want)
	}
	s := c.behind(t, fs)
	was := all(fs)
	does(t, "Recover", checkout.Recover(fs, s))
	if is := all(fs); done && is != was {
		t.Fatalf("Recover, and nothing was cut off: %.300s became %.300s", was, is)
	}
	c.goesOn(t, fs, want)
}

// cutAgain: Recover is cut off at each step, and called again behind another crash.
func (c call) cutAgain(t *testing.T, fs *vfs.FS, want string) {
	t.Helper()
	done := false
	for stop := 0; !done; stop++ {
		f := fs.Fork()
		s := c.behind(t, f)
		f.Stop(stop)
		e := checkout.Recover(f, s)
		if done = e == api.OK; !done && e != api.ErrCut {
			t.Fatalf("Recover: %v", e)
		}
		f.Crash(stop%4, stop%3*10)
		does(t, "Recover", checkout.Recover(f, c.behind(t, f)))
		has(t, f, want)
	}
}

// goesOn: the working tree is whole, durable and alone, Recover is done, and other calls do what they do.
func (c call) goesOn(t *testing.T, fs *vfs.FS, want string) {
	t.Helper()
	s := c.behind(t, fs)
	for range 2 {
		has(t, fs, want)
		if root, pending := checkout.Pending(fs); pending || root != zero {
			t.Fatalf("%x is pending behind Recover", root)
		}
		was := all(fs)
		does(t, "Recover", checkout.Recover(fs, s))
		if is := all(fs); is != was {
			t.Fatalf("Recover once more: %.300s became %.300s", was, is)
		}
		fs.Crash(0, 0)
	}
	if text, e := fs.Read("other"); e != api.OK || strings.Trim(string(text), "o") != "" {
		t.Fatalf("other is %.100q %v", text, e)
	}
	for _, f := range parse(want) {
		does(t, "Remove", checkout.Remove(fs, f.Path))
	}
	for _, name := range fs.List() {
		if strings.HasPrefix(name, "work") || strings.HasPrefix(name, "todo") {
			if text, _ := fs.Read(name); len(text) > 0 {
				t.Fatalf("%s is left with %q", name, text)
			}
		}
	}
	does(t, "Write", checkout.Write(fs, snap.File{Path: "n"}))
	has(t, fs, "n=")
}

// moveOf: a Move from one working tree to another.
func moveOf(t *testing.T, was, is string) call {
	t.Helper()
	b := box{}
	root := scan(t, b, is)
	return call{was: was, is: is, root: root, shelf: b, do: func(fs *vfs.FS) api.Errno { return checkout.Move(fs, b, root) }}
}

// laid: a file system with a working tree, where just so many bytes are left.
func laid(t *testing.T, was string, left int) *vfs.FS {
	t.Helper()
	fs := disk(t, 5000)
	write(t, fs, was)
	leave(t, fs, left)
	return fs
}

// P19.4

func TestMoveCutAnywhere(t *testing.T) {
	for _, was := range trees {
		for _, is := range trees {
			moveOf(t, was, is).anywhere(t, laid(t, was, 2000))
		}
	}
}

func TestMoveCutAnywhereWithJustEnoughRoom(t *testing.T) {
	long := "a=" + strings.Repeat("l", 70) + " b=" + strings.Repeat("m", 90) + " c=" + strings.Repeat("n", 50)
	for _, way := range [][2]string{
		{"", "a=x"}, {"", long}, {long, ""}, {long, long}, {"b=1", long}, {"a=old b=older", long}, {"a=old b=older", "a=new b=newer"}, {"a=old b=older", "b=newer c=x"},
		{"x=1 y=2", "a=new b=newer"}, {"a/b=1 c=2", "a=3 c/d=4"}, {"a=x", "a=x@1"}, {"b=" + strings.Repeat("m", 90) + " d=1", long},
	} {
		c := moveOf(t, way[0], way[1])
		c.anywhere(t, laid(t, c.was, enough(t, c)))
	}
}

// enough: with how many bytes left, at least, a call is done.
func enough(t *testing.T, c call) int {
	t.Helper()
	left := 0
	for c.do(laid(t, c.was, left)) != api.OK {
		left++
	}
	return left
}

func TestMoveOfManyFilesCutAnywhere(t *testing.T) {
	var was, is []string
	for i := range 8 {
		was = append(was, "f"+strconv.Itoa(100+i)+"/a="+strconv.Itoa(i))
		is = append(is, "f"+strconv.Itoa(104+i)+"/a="+strconv.Itoa(i*i))
	}
	from, to := strings.Join(was, " "), strings.Join(is, " ")
	moveOf(t, from, to).anywhere(t, laid(t, from, 2000))
}

func TestMoveFromAStoreInTheSameFileSystem(t *testing.T) {
	was, is := "a=old b/c=1", "a=new b=2 d/e="+strings.Repeat("long", 30)
	fs := disk(t, 10000)
	lay(t, fs, "other", "oo")
	s, _ := store.Open(fs)
	root := scan(t, s, is)
	does(t, "Sync", s.Sync())
	write(t, fs, was)
	c := call{was: was, is: is, root: root, opens: true}
	c.do = func(fs *vfs.FS) api.Errno {
		// It is opened elsewhere, so that all steps are those of Move.
		s, e := store.Open(fs.Fork())
		if e != api.OK {
			return e
		}
		return checkout.Move(fs, s, root)
	}
	c.anywhere(t, fs)
}

func TestWriteCutAnywhere(t *testing.T) {
	long := strings.Repeat("long", 30)
	for _, c := range []call{
		{was: "", is: "a=x"}, {was: "a=old", is: "a=new"}, {was: "a=old", is: "a=old"}, {was: "a=old", is: "a=" + long}, {was: "a=" + long, is: "a="},
		{was: "b=1 c=2", is: "a=x b=1 c=2"}, {was: "a=x@1 b=1", is: "a=x@2 b=1"}, {was: "b=1", is: "a/b/c=x b=1"},
	} {
		f := parse(c.is)[0]
		c.do = func(fs *vfs.FS) api.Errno { return checkout.Write(fs, f) }
		c.shelf = box{}
		c.anywhere(t, laid(t, c.was, 500))
		c.anywhere(t, laid(t, c.was, enough(t, c)))
	}
}

func TestRemoveCutAnywhere(t *testing.T) {
	for _, c := range []call{{was: "a=x", is: ""}, {was: "a=x b=1 c=2", is: "b=1 c=2"}, {was: "a/b=x a/c=1", is: "a/c=1"}} {
		p := parse(c.was)[0].Path
		c.do = func(fs *vfs.FS) api.Errno { return checkout.Remove(fs, p) }
		c.shelf = box{}
		c.anywhere(t, laid(t, c.was, 100))
	}
}

// pendingMove: a Move that was cut off, and is to be done.
func pendingMove(t *testing.T) (call, *vfs.FS) {
	t.Helper()
	c := moveOf(t, "a=old b=1", "a=new c=2 d=3")
	fs := laid(t, c.was, 2000)
	for stop := 0; ; stop++ {
		f := fs.Fork()
		f.Stop(stop)
		if c.do(f) == api.OK {
			t.Fatal("a Move that is cut off is never pending")
		}
		f.Crash(0, 0)
		if _, pending := checkout.Pending(f); pending && there(t, f) != c.was {
			return c, f
		}
	}
}

func TestRecoverWithAShelfThatLacksSomething(t *testing.T) {
	c, fs := pendingMove(t)
	for id := range c.shelf.(box) {
		lacks := box(maps.Clone(c.shelf.(box)))
		delete(lacks, id)
		_, want := snap.Load(lacks, c.root)
		was := all(fs)
		if e := checkout.Recover(fs, lacks); e != want || e == api.OK {
			t.Errorf("Recover: %v, not %v", e, want)
		}
		if is := all(fs); is != was {
			t.Errorf("Recover: %s became %s", was, is)
		}
		if root, pending := checkout.Pending(fs); !pending || root != c.root {
			t.Errorf("%x is pending: %v", root, pending)
		}
	}
	does(t, "Recover", checkout.Recover(fs, c.shelf))
	c.goesOn(t, fs, c.is)
}

func TestRecoverHasLoadsErrorAheadOfNoPower(t *testing.T) {
	c, fs := pendingMove(t)
	fs.Stop(0)
	if e := checkout.Recover(fs, box{}); e != api.ErrMissing {
		t.Errorf("Recover: %v", e)
	}
	if e := checkout.Recover(fs, c.shelf); e != api.ErrCut {
		t.Errorf("Recover: %v", e)
	}
}

func TestRecoverChangesNothingWhereNothingWasCutOff(t *testing.T) {
	for _, files := range trees {
		fs := laid(t, files, 1000)
		was := all(fs)
		fs.Stop(0)
		for _, s := range []snap.Shelf{box{}, nil} {
			does(t, "Recover", checkout.Recover(fs, s))
			if is := all(fs); is != was {
				t.Errorf("Recover: %s became %s", was, is)
			}
		}
		fs.Stop(-1)
		write(t, fs, "n=1")
		does(t, "Remove", checkout.Remove(fs, "n"))
		was = all(fs)
		does(t, "Recover", checkout.Recover(fs, box{}))
		if is := all(fs); is != was {
			t.Errorf("Recover: %s became %s", was, is)
		}
	}
}

// All of it, held against a reckoning from the words

// anyTree: some files that may stand beside one another.
func anyTree(r *rand.Rand) string {
	var files []snap.File
	for range r.Intn(6) {
		f := anyFile(r)
		clashes := func(g snap.File) bool { return path.Under(f.Path, g.Path) || path.Under(g.Path, f.Path) }
		if !slices.ContainsFunc(files, clashes) {
			files = append(files, f)
		}
	}
	return show(snap.Sorted(files))
}

func anyFile(r *rand.Rand) snap.File {
	p := []string{"a", "b", "a.b", "a/b", "a/c", "b/a", "c/d/e", "c/d"}[r.Intn(8)]
	return snap.File{Path: p, Data: []byte(strings.Repeat([]string{"x", "y", "z"}[r.Intn(3)], r.Intn(40))), Stamp: float64(r.Intn(3) - 1)}
}

// written: the working tree behind a Write, or its error.
func written(was string, f snap.File) (string, api.Errno) {
	l := parse(was)
	for _, g := range l {
		if path.Under(f.Path, g.Path) || path.Under(g.Path, f.Path) {
			return was, api.ErrClash
		}
	}
	return show(snap.Sorted(append(l, f))), api.OK
}

// removed: the working tree behind a Remove, or its error.
func removed(was, p string) (string, api.Errno) {
	l := parse(was)
	is := slices.DeleteFunc(slices.Clone(l), func(f snap.File) bool { return f.Path == p })
	if len(is) == len(l) {
		return was, api.ErrMissing
	}
	return show(is), api.OK
}

// anyCall: some call, and what it is to answer where there is room and power.
func anyCall(t *testing.T, r *rand.Rand, b box, was string) (call, api.Errno) {
	t.Helper()
	f := anyFile(r)
	switch r.Intn(5) {
	case 0:
		is, e := removed(was, f.Path)
		return call{was: was, is: is, do: func(fs *vfs.FS) api.Errno { return checkout.Remove(fs, f.Path) }}, e
	case 1, 2:
		is := anyTree(r)
		root := scan(t, b, is)
		if r.Intn(8) == 0 {
			return call{was: was, is: was, do: func(fs *vfs.FS) api.Errno { return checkout.Move(fs, box{}, root) }}, api.ErrMissing
		}
		return call{was: was, is: is, root: root, do: func(fs *vfs.FS) api.Errno { return checkout.Move(fs, b, root) }}, api.OK
	}
	is, e := written(was, f)
	return call{was: was, is: is, do: func(fs *vfs.FS) api.Errno { return checkout.Write(fs, f) }}, e
}

func TestManyCallsAgainstTheWords(t *testing.T) {
	r := rand.New(rand.NewSource(31))
	for range 400 {
		fs, b := disk(t, 100+r.Intn(600)), box{}
		now := ""
		for range 60 {
			c, want := anyCall(t, r, b, now)
			if r.Intn(6) == 0 {
				fs.Stop(r.Intn(25))
			}
			was := all(fs)
			e := c.do(fs)
			switch {
			case e == api.OK && want == api.OK:
				now = c.is
			case e == api.ErrCut && want == api.OK:
				now = c.recovered(t, r, fs, b)
			case e != want && (e != api.ErrFull || want != api.OK):
				t.Fatalf("%q to %q: %v, not %v", c.was, c.is, e, want)
			case all(fs) != was:
				t.Fatalf("%v, and %s became %s", e, was, all(fs))
			}
			if r.Intn(10) == 0 {
				fs.Crash(r.Intn(5), r.Intn(50))
				does(t, "Recover", checkout.Recover(fs, b))
			}
			has(t, fs, now)
		}
	}
}

// recovered: crashes and Recovers, until one isn't cut off; the working tree is that ahead of the call, or that behind it.
func (c call) recovered(t *testing.T, r *rand.Rand, fs *vfs.FS, b box) string {
	t.Helper()
	e := api.ErrCut
	for e == api.ErrCut {
		fs.Crash(r.Intn(8)-1, r.Intn(60))
		if r.Intn(2) == 0 {
			fs.Stop(r.Intn(12))
		}
		root, pending := checkout.Pending(fs)
		if pending && root != c.root {
			t.Fatalf("%x is pending", root)
		}
		if e = checkout.Recover(fs, b); pending && e == api.OK {
			has(t, fs, c.is)
		}
	}
	does(t, "Recover", e)
	now := there(t, fs)
	if now != c.is && now != c.was {
		t.Fatalf("%q to %q: %q", c.was, c.is, now)
	}
	return now
}
