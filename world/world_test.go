package world_test

import (
	"bytes"
	"math"
	"slices"
	"strconv"
	"strings"
	"testing"

	"towline/api"
	"towline/collect"
	"towline/object"
	"towline/replica"
	"towline/sha"
	"towline/snap"
	"towline/vfs"
	"towline/world"
)

var zero api.ID

func does(t *testing.T, what string, e api.Errno) {
	t.Helper()
	if e != api.OK {
		t.Fatalf("%s: %v", what, e)
	}
}

func is(t *testing.T, what string, e, want api.Errno) {
	t.Helper()
	if e != want {
		t.Errorf("%s: %v, not %v", what, e, want)
	}
}

// begun: a world with as much room as there may be.
func begun(t *testing.T, copies int) *world.World {
	t.Helper()
	w, e := world.New(copies, api.MaxDisk)
	does(t, "New", e)
	return w
}

// held: a copy, which must be up.
func held(t *testing.T, w *world.World, i int) *replica.Replica {
	t.Helper()
	c, e := w.Copy(i)
	does(t, "Copy", e)
	if c == nil {
		t.Fatal("no copy beside OK")
	}
	return c
}

// wrote: a file of a copy has a text, of which each | ends a line.
func wrote(t *testing.T, w *world.World, i int, p, text string) {
	t.Helper()
	does(t, "Write", w.Write(i, snap.File{Path: p, Data: []byte(strings.ReplaceAll(text, "|", "\n"))}))
}

// made: a copy has a file more, and that is a snapshot.
func made(t *testing.T, w *world.World, i int, p, text string) api.ID {
	t.Helper()
	wrote(t, w, i, p, text)
	id, e := held(t, w, i).Commit(object.Commit{Author: world.Name(i), Note: p + text[:min(len(text), 100)]})
	does(t, "Commit", e)
	return id
}

// pulled: a copy comes to know another one's head, as nothing goes wrong.
func pulled(t *testing.T, w *world.World, i, from int) {
	t.Helper()
	does(t, "Pull", w.Pull(i, from))
	delivered(t, w)
}

// delivered: all letters come, the first first.
func delivered(t *testing.T, w *world.World) {
	t.Helper()
	for w.Len() > 0 {
		does(t, "Deliver", w.Deliver(0))
	}
}

// knows: what a copy knows of another one; the zero id is nothing.
func knows(t *testing.T, w *world.World, i, of int, want api.ID) {
	t.Helper()
	id, e := held(t, w, i).Peer(world.Name(of))
	if id != want || (e == api.OK) != (want != zero) {
		t.Errorf("copy %d knows %.8s of copy %d, not %.8s: %v", i, sha.Hex(id), of, sha.Hex(want), e)
	}
}

// files: a copy's working tree as a text.
func files(t *testing.T, c *replica.Replica) string {
	t.Helper()
	l, e := c.Files()
	does(t, "Files", e)
	var out []string
	for _, f := range l {
		out = append(out, f.Path+"="+strings.ReplaceAll(string(f.Data), "\n", "|"))
	}
	return strings.Join(out, " ")
}

// known: the head, the working tree and what is known of others.
func known(t *testing.T, c *replica.Replica) string {
	t.Helper()
	out := sha.Hex(c.Head()) + " " + files(t, c)
	for i := range world.MaxCopies {
		if id, e := c.Peer(world.Name(i)); e == api.OK {
			out += " " + world.Name(i) + ":" + sha.Hex(id)
		}
	}
	return out
}

// state: all that can be told of a world.
func state(t *testing.T, w *world.World) string {
	t.Helper()
	out := strconv.Itoa(w.Copies()) + " " + strconv.Itoa(w.Len()) + "\n"
	for i := range w.Copies() {
		c, e := w.Copy(i)
		out += e.Error() + " "
		if e == api.OK {
			ids := c.Records()
			slices.SortFunc(ids, func(a, b api.ID) int { return bytes.Compare(a[:], b[:]) })
			out += known(t, c)
			for _, id := range ids {
				out += " " + sha.Hex(id)
			}
		}
		out += "\n"
	}
	return out
}

// refuses: a call has an error, and nothing has changed.
func refuses(t *testing.T, w *world.World, what string, want api.Errno, call func() api.Errno) {
	t.Helper()
	was := state(t, w)
	is(t, what, call(), want)
	if got := state(t, w); got != was {
		t.Errorf("%s: %s became %s", what, was, got)
	}
}

// whole: all that can be reached from a copy's head, and from what it knows of others, is there.
func whole(t *testing.T, c *replica.Replica) {
	t.Helper()
	var roots []api.ID
	if c.Head() != zero {
		roots = append(roots, c.Head())
	}
	for i := range world.MaxCopies {
		if id, e := c.Peer(world.Name(i)); e == api.OK {
			roots = append(roots, id)
		}
	}
	if lost := collect.Lost(c, roots...); len(lost) > 0 {
		t.Errorf("%d records are lost", len(lost))
	}
}

// P23.1

func TestNew(t *testing.T) {
	for _, copies := range []int{math.MinInt, -1, 0, 9, 10, math.MaxInt} {
		for _, room := range []int{-1, 0, 1 << 20, api.MaxDisk + 1} {
			if w, e := world.New(copies, room); e != api.ErrRange || w != nil {
				t.Errorf("New of %d copies: %v", copies, e)
			}
		}
	}
	for _, room := range []int{math.MinInt, -1, api.MaxDisk + 1, math.MaxInt} {
		if w, e := world.New(2, room); e != api.ErrRange || w != nil {
			t.Errorf("New with room for %d: %v", room, e)
		}
	}
	for copies := 1; copies <= world.MaxCopies; copies++ {
		w := begun(t, copies)
		if w.Copies() != copies || w.Len() != 0 {
			t.Errorf("%d copies, and %d letters", w.Copies(), w.Len())
		}
		for i := range copies {
			c := held(t, w, i)
			if c.Head() != zero || len(c.Records()) != 0 || files(t, c) != "" {
				t.Errorf("copy %d has something", i)
			}
			wrote(t, w, i, "own", strconv.Itoa(i))
		}
		for i := range copies {
			if got := files(t, held(t, w, i)); got != "own="+strconv.Itoa(i) {
				t.Errorf("copy %d has %q", i, got)
			}
		}
	}
}

func TestNewNeedsRoom(t *testing.T) {
	full := 0
	for room := 0; room <= 1000; room++ {
		fs, _ := vfs.New(room)
		_, want := replica.Open(fs)
		if w, e := world.New(2, room); e != want || (w != nil) != (e == api.OK) {
			t.Fatalf("New with room for %d: %v, not %v", room, e, want)
		}
		if want == api.ErrFull {
			full++
		}
	}
	if full == 0 {
		t.Error("no room is too little")
	}
	if w, e := world.New(8, 1000); e != api.OK || w == nil {
		t.Errorf("New: %v", e)
	}
}

func TestEachCopyHasTheRoom(t *testing.T) {
	for _, room := range []int{1000, 3000, 20000, 70000} {
		w, e := world.New(3, room)
		does(t, "New", e)
		for i := range w.Copies() {
			fs, _ := vfs.New(room)
			c, _ := replica.Open(fs)
			for n := 0; n < 20; n++ {
				f := snap.File{Path: strconv.Itoa(n), Data: make([]byte, 500*n)}
				is(t, "Write", w.Write(i, f), c.Write(f))
			}
			if files(t, held(t, w, i)) != files(t, c) {
				t.Errorf("room for %d: copy %d has other files", room, i)
			}
		}
	}
}

func TestName(t *testing.T) {
	for i, want := range []string{"copy-0", "copy-1", "copy-2", "copy-3", "copy-4", "copy-5", "copy-6", "copy-7"} {
		if got := world.Name(i); got != want {
			t.Errorf("Name of %d: %q", i, got)
		}
	}
	for _, i := range []int{math.MinInt, -1, 8, 10, math.MaxInt} {
		if got := world.Name(i); got != "" {
			t.Errorf("Name of %d: %q", i, got)
		}
	}
}

func TestCopyAndWrite(t *testing.T) {
	w := begun(t, 3)
	for _, i := range []int{math.MinInt, -1, 3, 8, math.MaxInt} {
		if c, e := w.Copy(i); e != api.ErrRange || c != nil {
			t.Errorf("Copy of %d: %v", i, e)
		}
		refuses(t, w, "Write", api.ErrRange, func() api.Errno { return w.Write(i, snap.File{Path: "//"}) })
	}
	refuses(t, w, "Write", api.ErrPath, func() api.Errno { return w.Write(1, snap.File{Path: "//"}) })
	refuses(t, w, "Write", api.ErrLong, func() api.Errno { return w.Write(1, snap.File{Path: "a", Data: make([]byte, api.MaxBlob+1)}) })
	data := []byte("x")
	does(t, "Write", w.Write(1, snap.File{Path: "a", Data: data, Stamp: 2}))
	data[0] = 'y'
	c := held(t, w, 1)
	if l, e := c.Files(); e != api.OK || len(l) != 1 || l[0].Path != "a" || string(l[0].Data) != "x" || l[0].Stamp != 2 {
		t.Errorf("Files: %v %v", l, e)
	}
	refuses(t, w, "Write", api.ErrClash, func() api.Errno { return w.Write(1, snap.File{Path: "a/b"}) })
	id, e := c.Commit(object.Commit{})
	does(t, "Commit", e)
	if held(t, w, 1).Head() != id || held(t, w, 0).Head() != zero || held(t, w, 2).Head() != zero {
		t.Error("what was asked of copy 1 wasn't done by it")
	}
	does(t, "Crash", w.Crash(1, 0, 0))
	if c, e := w.Copy(1); e != api.ErrDown || c != nil {
		t.Errorf("Copy of what is down: %v", e)
	}
	refuses(t, w, "Write", api.ErrDown, func() api.Errno { return w.Write(1, snap.File{Path: "//"}) })
}

// P23.2

func TestCrashAndRestart(t *testing.T) {
	w := begun(t, 3)
	for _, i := range []int{math.MinInt, -1, 3, math.MaxInt} {
		refuses(t, w, "Stop", api.ErrRange, func() api.Errno { return w.Stop(i, 0) })
		refuses(t, w, "Crash", api.ErrRange, func() api.Errno { return w.Crash(i, 0, 0) })
		refuses(t, w, "Restart", api.ErrRange, func() api.Errno { return w.Restart(i) })
	}
	id := made(t, w, 2, "a", "x")
	wrote(t, w, 2, "b", "y")
	refuses(t, w, "Restart", api.ErrTwice, func() api.Errno { return w.Restart(2) })
	for _, n := range []int{math.MinInt, -1, 0, 1, 1 << 20, math.MaxInt} {
		was := state(t, w)
		does(t, "Crash", w.Crash(2, n, n))
		refuses(t, w, "Crash", api.ErrDown, func() api.Errno { return w.Crash(2, 0, 0) })
		refuses(t, w, "Stop", api.ErrDown, func() api.Errno { return w.Stop(2, 0) })
		does(t, "Restart", w.Restart(2))
		refuses(t, w, "Restart", api.ErrTwice, func() api.Errno { return w.Restart(2) })
		if got := state(t, w); got != was {
			t.Errorf("%s became %s", was, got)
		}
	}
	if c := held(t, w, 2); c.Head() != id || files(t, c) != "a=x b=y" {
		t.Error("copy 2 has something else")
	}
}

// same: a world's copy is held against one in a file system of its own, of which the same is asked.
type same struct {
	w  *world.World
	fs *vfs.FS
	c  *replica.Replica
}

func newSame(t *testing.T) *same {
	t.Helper()
	fs, e := vfs.New(api.MaxDisk)
	does(t, "New", e)
	c, e := replica.Open(fs)
	does(t, "Open", e)
	return &same{begun(t, 2), fs, c}
}

// do: something is asked of both.
func (s *same) do(t *testing.T, what string, call func(c *replica.Replica) api.Errno) api.Errno {
	t.Helper()
	e := call(s.c)
	is(t, what, call(held(t, s.w, 1)), e)
	return e
}

func (s *same) write(t *testing.T, p, text string) api.Errno {
	return s.do(t, "Write", func(c *replica.Replica) api.Errno { return c.Write(snap.File{Path: p, Data: []byte(text)}) })
}

func (s *same) commit(t *testing.T) api.Errno {
	return s.do(t, "Commit", func(c *replica.Replica) api.Errno { _, e := c.Commit(object.Commit{}); return e })
}

func TestStopAndCrashAreThoseOfTheFileSystem(t *testing.T) {
	cut := 0
	for stop := -1; stop < 40; stop++ {
		for _, acts := range []int{-1, 1, 2, 3, 100} {
			for _, n := range []int{0, 30, 1 << 20} {
				s := newSame(t)
				s.write(t, "a", "x")
				s.commit(t)
				does(t, "Stop", s.w.Stop(1, stop))
				s.fs.Stop(stop)
				for range 2 {
					s.write(t, "b", "y")
					if s.commit(t) == api.ErrCut {
						cut++
					}
				}
				does(t, "Crash", s.w.Crash(1, acts, n))
				does(t, "Restart", s.w.Restart(1))
				s.fs.Crash(acts, n)
				c, e := replica.Open(s.fs)
				does(t, "Open", e)
				if got, want := known(t, held(t, s.w, 1)), known(t, c); got != want {
					t.Fatalf("stopped at %d, %d %d: %s, not %s", stop, acts, n, got, want)
				}
				whole(t, held(t, s.w, 1))
				made(t, s.w, 1, "c", "z")
			}
		}
	}
	if cut < 100 {
		t.Errorf("%d calls were cut off", cut)
	}
}

func TestStopIsGivenUp(t *testing.T) {
	w := begun(t, 2)
	does(t, "Stop", w.Stop(0, 0))
	is(t, "Write", w.Write(0, snap.File{Path: "a"}), api.ErrCut)
	wrote(t, w, 1, "a", "x")
	does(t, "Crash", w.Crash(0, 0, 0))
	does(t, "Restart", w.Restart(0))
	wrote(t, w, 0, "a", "x")
	does(t, "Stop", w.Stop(0, 2))
	does(t, "Stop", w.Stop(0, -1))
	made(t, w, 0, "b", "y")
	does(t, "Stop", w.Stop(0, 1))
	does(t, "Stop", w.Stop(0, math.MaxInt))
	made(t, w, 0, "b", "z")
}

// A call that needs just the steps that are left isn't cut off, and the copy goes on, once the power stays.
func TestStopBehindTheLastStep(t *testing.T) {
	for stop := 0; ; stop++ {
		w := begun(t, 2)
		made(t, w, 0, "a", "x")
		wrote(t, w, 0, "a", "y")
		does(t, "Stop", w.Stop(0, stop))
		id, e := held(t, w, 0).Commit(object.Commit{})
		if e == api.ErrCut {
			continue
		}
		does(t, "Commit", e)
		does(t, "Stop", w.Stop(0, -1))
		pulled(t, w, 1, 0)
		knows(t, w, 1, 0, id)
		made(t, w, 0, "a", "z")
		return
	}
}

// Whatever is tried of a copy whose power went, and where it came back without a crash: its crash is like one within the call at which it went.
func TestCrashIsThatWithinTheCall(t *testing.T) {
	found := map[string]int{}
	for stop := 1; stop < 60; stop++ {
		for _, acts := range []int{0, 1, 100} {
			w := begun(t, 2)
			made(t, w, 0, "a", "x")
			pulled(t, w, 1, 0)
			made(t, w, 0, "b", "y")
			made(t, w, 1, "c", "z")
			pulled(t, w, 0, 1)
			was := known(t, held(t, w, 0))
			does(t, "Stop", w.Stop(0, stop))
			_, e := w.Meet(0, 1, object.Commit{})
			if e == api.OK {
				found["done"]++
				continue
			}
			is(t, "Meet", e, api.ErrCut)
			does(t, "Stop", w.Stop(0, stop%3-1))
			w.Write(0, snap.File{Path: "d"})
			held(t, w, 0).Commit(object.Commit{})
			w.Meet(0, 1, object.Commit{Note: "again"})
			pulled(t, w, 0, 1)
			pulled(t, w, 1, 0)
			told, _ := held(t, w, 1).Peer(world.Name(0))
			held(t, w, 0).Collect()
			does(t, "Crash", w.Crash(0, acts, 0))
			does(t, "Restart", w.Restart(0))
			c := held(t, w, 0)
			whole(t, c)
			if comes, e := c.Comes(c.Head(), told); e != api.OK || !comes {
				t.Errorf("stopped at %d: another one knows what is no head any more: %v", stop, e)
			}
			if known(t, c) == was {
				found["was"]++
				continue
			}
			found["is"]++
			if got := files(t, c); got != "a=x b=y c=z" {
				t.Errorf("stopped at %d: %q", stop, got)
			}
		}
	}
	if found["done"] == 0 || found["was"] == 0 || found["is"] == 0 {
		t.Errorf("not all came up: %v", found)
	}
}

// Who held a copy ahead of a crash holds it behind that, too; while it is down nothing is done.
func TestACopyThatIsHeldThroughACrash(t *testing.T) {
	w := begun(t, 2)
	id := made(t, w, 0, "a", "x")
	c := held(t, w, 0)
	does(t, "Crash", w.Crash(0, 0, 0))
	is(t, "Write", c.Write(snap.File{Path: "b"}), api.ErrCut)
	if _, e := c.Commit(object.Commit{}); e != api.ErrSame && e != api.ErrCut {
		t.Errorf("Commit of what is down: %v", e)
	}
	does(t, "Restart", w.Restart(0))
	if c.Head() != id || files(t, c) != "a=x" {
		t.Error("something was done while it was down")
	}
	does(t, "Write", c.Write(snap.File{Path: "b", Data: []byte("y")}))
	id, e := c.Commit(object.Commit{})
	does(t, "Commit", e)
	if c := held(t, w, 0); c.Head() != id || files(t, c) != "a=x b=y" {
		t.Error("it was done by another one")
	}
	made(t, w, 0, "b", "z")
	whole(t, c)
}

// P23.3

func TestLettersThatArentThere(t *testing.T) {
	w := begun(t, 2)
	made(t, w, 1, "a", "x")
	for n := range 3 {
		for _, i := range []int{math.MinInt, -1, n, n + 1, math.MaxInt} {
			refuses(t, w, "Drop", api.ErrMissing, func() api.Errno { return w.Drop(i) })
			refuses(t, w, "Double", api.ErrMissing, func() api.Errno { return w.Double(i) })
			refuses(t, w, "Spoil", api.ErrMissing, func() api.Errno { return w.Spoil(i, -1, 0) })
			refuses(t, w, "Deliver", api.ErrMissing, func() api.Errno { return w.Deliver(i) })
		}
		does(t, "Pull", w.Pull(0, 1))
		if w.Len() != n+1 {
			t.Fatalf("%d letters", w.Len())
		}
	}
}

// three: copy 0 asked copies 1, 2 and 3 for their heads.
func three(t *testing.T) (*world.World, []api.ID) {
	t.Helper()
	w := begun(t, 4)
	var ids []api.ID
	for i := range 4 {
		ids = append(ids, made(t, w, i, world.Name(i), "x"))
	}
	for i := 1; i < 4; i++ {
		does(t, "Pull", w.Pull(0, i))
	}
	return w, ids
}

func TestDropLosesOne(t *testing.T) {
	for drop := range 3 {
		w, ids := three(t)
		ids[drop+1] = zero
		does(t, "Drop", w.Drop(drop))
		if w.Len() != 2 {
			t.Errorf("%d letters", w.Len())
		}
		delivered(t, w)
		for i := 1; i < 4; i++ {
			knows(t, w, 0, i, ids[i])
		}
	}
}

func TestDeliverIsOfThatLetter(t *testing.T) {
	for i := range 3 {
		w, ids := three(t)
		does(t, "Deliver", w.Deliver(i))
		if w.Len() != 3 {
			t.Fatalf("%d letters", w.Len())
		}
		does(t, "Drop", w.Drop(0))
		does(t, "Drop", w.Drop(0))
		// What was sent last stands behind all others.
		delivered(t, w)
		for k := 1; k < 4; k++ {
			want := zero
			if k == i+1 {
				want = ids[k]
			}
			knows(t, w, 0, k, want)
		}
	}
}

func TestDeliverToWhatIsDown(t *testing.T) {
	w, ids := three(t)
	does(t, "Crash", w.Crash(2, 0, 0))
	does(t, "Deliver", w.Deliver(1))
	if w.Len() != 2 {
		t.Errorf("%d letters", w.Len())
	}
	does(t, "Restart", w.Restart(2))
	delivered(t, w)
	knows(t, w, 0, 1, ids[1])
	knows(t, w, 0, 2, zero)
	knows(t, w, 0, 3, ids[3])
	// A letter that comes when its copy is up again comes all the same.
	does(t, "Pull", w.Pull(0, 2))
	does(t, "Crash", w.Crash(2, 0, 0))
	does(t, "Restart", w.Restart(2))
	delivered(t, w)
	knows(t, w, 0, 2, ids[2])
	does(t, "Pull", w.Pull(3, 2))
	does(t, "Crash", w.Crash(3, 0, 0))
	delivered(t, w)
	does(t, "Restart", w.Restart(3))
	knows(t, w, 3, 2, zero)
}

func TestDoubleComesTwice(t *testing.T) {
	w, ids := three(t)
	for i := 2; i >= 0; i-- {
		does(t, "Double", w.Double(i))
	}
	for range 3 {
		does(t, "Drop", w.Drop(0))
	}
	// They are on their way in the order in which they were doubled.
	does(t, "Drop", w.Drop(1))
	does(t, "Drop", w.Drop(1))
	delivered(t, w)
	knows(t, w, 0, 1, zero)
	knows(t, w, 0, 2, zero)
	knows(t, w, 0, 3, ids[3])
}

func TestDoubledLettersDoNoHarm(t *testing.T) {
	w, ids := three(t)
	for range 400 {
		if w.Len() < 200 {
			does(t, "Double", w.Double(0))
		}
		does(t, "Deliver", w.Deliver(w.Len()/2))
	}
	delivered(t, w)
	for i := 1; i < 4; i++ {
		knows(t, w, 0, i, ids[i])
	}
	whole(t, held(t, w, 0))
}

func TestNoMoreLettersThanMayBe(t *testing.T) {
	w := begun(t, 2)
	id := made(t, w, 1, "a", "x")
	for w.Len() < world.MaxFlight {
		does(t, "Pull", w.Pull(0, 1))
		if w.Len() < world.MaxFlight {
			does(t, "Double", w.Double(0))
		}
	}
	refuses(t, w, "Double", api.ErrFull, func() api.Errno { return w.Double(0) })
	refuses(t, w, "Double", api.ErrMissing, func() api.Errno { return w.Double(world.MaxFlight) })
	does(t, "Pull", w.Pull(0, 1))
	if w.Len() != world.MaxFlight {
		t.Errorf("%d letters", w.Len())
	}
	for range 100 {
		does(t, "Deliver", w.Deliver(0))
		if w.Len() > world.MaxFlight {
			t.Fatalf("%d letters", w.Len())
		}
	}
	delivered(t, w)
	knows(t, w, 0, 1, id)
	made(t, w, 1, "b", "y")
	for w.Len() < world.MaxFlight {
		does(t, "Pull", w.Pull(0, 1))
	}
	does(t, "Round", w.Round())
	knows(t, w, 0, 1, held(t, w, 1).Head())
}

func TestSpoil(t *testing.T) {
	w := begun(t, 2)
	id := made(t, w, 1, "a", "x")
	does(t, "Pull", w.Pull(0, 1))
	for _, at := range []int{math.MinInt, -1, 1 << 21, math.MaxInt} {
		refuses(t, w, "Spoil", api.ErrRange, func() api.Errno { return w.Spoil(0, at, 1) })
	}
	refuses(t, w, "Spoil", api.ErrRange, func() api.Errno { return w.Spoil(0, 0, 0) })
	does(t, "Double", w.Double(0))
	does(t, "Spoil", w.Spoil(0, 0, 255))
	is(t, "Spoil", w.Spoil(0, 0, 255), api.ErrTwice)
	is(t, "Spoil", w.Spoil(0, -1, 0), api.ErrTwice)
	does(t, "Double", w.Double(0))
	is(t, "Spoil", w.Spoil(2, 0, 0), api.ErrTwice)
	does(t, "Deliver", w.Deliver(2))
	does(t, "Deliver", w.Deliver(0))
	if w.Len() != 1 {
		t.Fatalf("%d letters", w.Len())
	}
	knows(t, w, 0, 1, zero)
	// What was doubled ahead of that isn't spoilt.
	delivered(t, w)
	knows(t, w, 0, 1, id)
}

// TestSpoiltLettersCountForNothing spoils each byte of each letter that is sent.
func TestSpoiltLettersCountForNothing(t *testing.T) {
	w := begun(t, 2)
	id := made(t, w, 1, "a/b", strings.Repeat("l|", 50))
	does(t, "Pull", w.Pull(0, 1))
	letters := 0
	for ; w.Len() > 0; letters++ {
		was := state(t, w)
		spoilt := 0
		for at := 0; ; at++ {
			does(t, "Double", w.Double(0))
			if w.Spoil(1, at, byte(1+at*37%255)) == api.ErrRange {
				does(t, "Drop", w.Drop(1))
				break
			}
			spoilt++
			does(t, "Deliver", w.Deliver(1))
			if w.Len() != 1 {
				t.Fatalf("letter %d, spoilt at %d: another one is sent", letters, at)
			}
		}
		if got := state(t, w); got != was || spoilt == 0 {
			t.Fatalf("letter %d: %s became %s", letters, was, got)
		}
		does(t, "Deliver", w.Deliver(0))
	}
	if letters < 4 {
		t.Errorf("%d letters", letters)
	}
	knows(t, w, 0, 1, id)
}

// P23.4

func TestPull(t *testing.T) {
	w := begun(t, 3)
	for _, i := range []int{math.MinInt, -1, 3, math.MaxInt} {
		refuses(t, w, "Pull", api.ErrRange, func() api.Errno { return w.Pull(i, 0) })
		refuses(t, w, "Pull", api.ErrRange, func() api.Errno { return w.Pull(0, i) })
	}
	refuses(t, w, "Pull", api.ErrRange, func() api.Errno { return w.Pull(2, 2) })
	pulled(t, w, 0, 1)
	knows(t, w, 0, 1, zero)
	id := made(t, w, 1, "a", "x")
	does(t, "Pull", w.Pull(0, 1))
	if w.Len() != 1 {
		t.Errorf("%d letters", w.Len())
	}
	delivered(t, w)
	knows(t, w, 0, 1, id)
	knows(t, w, 1, 0, zero)
	knows(t, w, 2, 1, zero)
	id = made(t, w, 1, "a", "y")
	pulled(t, w, 0, 1)
	knows(t, w, 0, 1, id)
	if c := held(t, w, 0); c.Head() != zero || files(t, c) != "" {
		t.Error("Pull changes the head")
	}
	does(t, "Crash", w.Crash(0, 0, 0))
	refuses(t, w, "Pull", api.ErrDown, func() api.Errno { return w.Pull(0, 7) })
	does(t, "Pull", w.Pull(1, 0))
	delivered(t, w)
	does(t, "Restart", w.Restart(0))
	knows(t, w, 0, 1, id)
}

func TestPullOfWhatNeedsManyLetters(t *testing.T) {
	w := begun(t, 2)
	for i := range 20 {
		made(t, w, 1, "d/"+strconv.Itoa(i), string(noise(i, 5000)))
	}
	id := made(t, w, 1, "great", string(noise(99, 80000)))
	pulled(t, w, 0, 1)
	knows(t, w, 0, 1, id)
	whole(t, held(t, w, 0))
	got, e := w.Meet(0, 1, object.Commit{})
	if e != api.OK || got != id || files(t, held(t, w, 0)) != files(t, held(t, w, 1)) {
		t.Errorf("Meet: %v", e)
	}
}

// noise: so many bytes, of which no two parts are alike.
func noise(seed, n int) []byte {
	var out []byte
	for i := 0; len(out) < n; i++ {
		id := sha.Sum([]byte(strconv.Itoa(seed) + " " + strconv.Itoa(i)))
		out = append(out, id[:]...)
	}
	return out[:n]
}

// Several fetches of what is partly the same go on beside one another, in any order.
func TestPullsBesideOneAnother(t *testing.T) {
	for seed := range 60 {
		w := begun(t, 5)
		for i := range 12 {
			made(t, w, 1, "a/"+strconv.Itoa(i), "x"+strconv.Itoa(i))
		}
		for i := 2; i < 5; i++ {
			pulled(t, w, i, 1)
			_, e := w.Meet(i, 1, object.Commit{})
			does(t, "Meet", e)
			for k := range i {
				made(t, w, i, "b"+strconv.Itoa(i)+"/"+strconv.Itoa(k), "y"+strconv.Itoa(k))
			}
		}
		for i := 1; i < 5; i++ {
			does(t, "Pull", w.Pull(0, i))
		}
		for n := 0; w.Len() > 0; n++ {
			if seed > 30 && n < 20 && n%3 == 0 {
				does(t, "Double", w.Double(seed*n%w.Len()))
			}
			does(t, "Deliver", w.Deliver((seed*7+n*n*31)%w.Len()))
		}
		for i := 1; i < 5; i++ {
			knows(t, w, 0, i, held(t, w, i).Head())
		}
		whole(t, held(t, w, 0))
	}
}

func TestPullGoesOnBehindLostLetters(t *testing.T) {
	for lost := range 12 {
		w := begun(t, 2)
		made(t, w, 1, "a/b", "x")
		id := made(t, w, 1, "c", "y")
		does(t, "Pull", w.Pull(0, 1))
		for n := 0; w.Len() > 0; n++ {
			if n == lost {
				does(t, "Drop", w.Drop(0))
				knows(t, w, 0, 1, zero)
				continue
			}
			does(t, "Deliver", w.Deliver(0))
		}
		pulled(t, w, 0, 1)
		knows(t, w, 0, 1, id)
	}
}

// What came ahead of a letter that was lost needn't come again.
func TestPullKeepsWhatCame(t *testing.T) {
	w := begun(t, 2)
	made(t, w, 1, "a", string(noise(1, 30000)))
	letters := func(most int) int {
		does(t, "Pull", w.Pull(0, 1))
		n := 0
		for ; w.Len() > 0 && n < most; n++ {
			does(t, "Deliver", w.Deliver(0))
		}
		return n
	}
	letters(11)
	does(t, "Drop", w.Drop(0))
	rest := letters(1000)
	knows(t, w, 0, 1, held(t, w, 1).Head())
	w = begun(t, 2)
	made(t, w, 1, "a", string(noise(1, 30000)))
	if all := letters(1000); rest > all-8 || all < 15 {
		t.Errorf("%d letters, and %d behind one that was lost", all, rest)
	}
}

// What was told may be thrown away where it was: then the letters come to an end.
func TestCollectOfWhatWasTold(t *testing.T) {
	for at := 1; at < 8; at++ {
		w := begun(t, 2)
		first := made(t, w, 1, "a", "x")
		made(t, w, 1, "a", "y")
		made(t, w, 1, "b", "z")
		does(t, "Pull", w.Pull(0, 1))
		n := 0
		for ; w.Len() > 0 && n < 100; n++ {
			if n == at {
				c := held(t, w, 1)
				does(t, "Switch", c.Switch(first))
				c.Collect()
			}
			does(t, "Deliver", w.Deliver(0))
		}
		if n == 100 {
			t.Fatal("the letters come to no end")
		}
		whole(t, held(t, w, 0))
		knows(t, w, 0, 1, zero)
		pulled(t, w, 0, 1)
		knows(t, w, 0, 1, first)
	}
}

// What was there when a fetch began may be thrown away on the way.
func TestCollectWithinAPull(t *testing.T) {
	for at := range 12 {
		w := begun(t, 2)
		first := made(t, w, 1, "a", "x")
		made(t, w, 1, "b", "y")
		pulled(t, w, 0, 1)
		_, e := w.Meet(0, 1, object.Commit{})
		does(t, "Meet", e)
		made(t, w, 0, "c", "z")
		id := made(t, w, 0, "d", "w")
		does(t, "Pull", w.Pull(1, 0))
		for n := 0; w.Len() > 0; n++ {
			if n == at {
				c := held(t, w, 1)
				does(t, "Switch", c.Switch(first))
				c.Collect()
			}
			if n == at && at%2 == 1 {
				does(t, "Drop", w.Drop(0))
				continue
			}
			does(t, "Deliver", w.Deliver(0))
			whole(t, held(t, w, 1))
		}
		does(t, "Round", w.Round())
		knows(t, w, 1, 0, id)
		whole(t, held(t, w, 1))
	}
}

func TestPeersChangeOnlyToWhatComesFromThem(t *testing.T) {
	w := begun(t, 2)
	first := made(t, w, 1, "a", "x")
	second := made(t, w, 1, "a", "y")
	pulled(t, w, 0, 1)
	knows(t, w, 0, 1, second)
	does(t, "Switch", held(t, w, 1).Switch(first))
	pulled(t, w, 0, 1)
	knows(t, w, 0, 1, second)
	made(t, w, 1, "a", "z")
	pulled(t, w, 0, 1)
	does(t, "Round", w.Round())
	knows(t, w, 0, 1, second)
	does(t, "Switch", held(t, w, 1).Switch(second))
	third := made(t, w, 1, "a", "z")
	pulled(t, w, 0, 1)
	knows(t, w, 0, 1, third)
}

// An old letter that comes late changes nothing.
func TestALetterThatComesLate(t *testing.T) {
	w := begun(t, 2)
	made(t, w, 1, "a", "x")
	does(t, "Pull", w.Pull(0, 1))
	for w.Len() > 0 && w.Len() < 20 {
		// Each letter is kept back once, too.
		does(t, "Double", w.Double(0))
		does(t, "Deliver", w.Deliver(0))
	}
	late := w.Len()
	id := made(t, w, 1, "a", "y")
	does(t, "Pull", w.Pull(0, 1))
	for w.Len() > late {
		does(t, "Deliver", w.Deliver(late))
	}
	knows(t, w, 0, 1, id)
	delivered(t, w)
	knows(t, w, 0, 1, id)
	whole(t, held(t, w, 0))
}

func TestMeet(t *testing.T) {
	w := begun(t, 3)
	for _, i := range []int{math.MinInt, -1, 3, math.MaxInt} {
		is(t, "Meet", meet(t, w, i, 0), api.ErrRange)
		is(t, "Meet", meet(t, w, 0, i), api.ErrMissing)
	}
	id := made(t, w, 1, "a", "1|2|3|")
	for _, from := range []int{0, 1, 2} {
		refuses(t, w, "Meet", api.ErrMissing, func() api.Errno { return meet(t, w, 0, from) })
	}
	// Somebody else's name is that of no copy here.
	does(t, "Accept", held(t, w, 1).Accept(world.Name(5), id, nil))
	refuses(t, w, "Meet", api.ErrMissing, func() api.Errno { return meet(t, w, 1, 5) })
	pulled(t, w, 0, 1)
	if got, e := w.Meet(0, 1, object.Commit{Note: "n"}); e != api.OK || got != id || held(t, w, 0).Head() != id || files(t, held(t, w, 0)) != "a=1|2|3|" {
		t.Errorf("Meet: %v", e)
	}
	refuses(t, w, "Meet", api.ErrSame, func() api.Errno { return meet(t, w, 0, 1) })
	made(t, w, 0, "a", "x|2|3|")
	made(t, w, 1, "a", "1|2|y|")
	is(t, "Meet", meet(t, w, 0, 1), api.ErrSame)
	pulled(t, w, 0, 1)
	wrote(t, w, 0, "b", "")
	refuses(t, w, "Meet", api.ErrState, func() api.Errno { return meet(t, w, 0, 1) })
	does(t, "Remove", held(t, w, 0).Remove("b"))
	parents := []api.ID{{3}, {1}}
	x := object.Commit{Author: "me", Note: "both", Stamp: 7, Parents: parents}
	got, e := w.Meet(0, 1, x)
	does(t, "Meet", e)
	if held(t, w, 0).Head() != got || files(t, held(t, w, 0)) != "a=x|2|y|" || !slices.Equal(parents, []api.ID{{3}, {1}}) {
		t.Errorf("Meet: %q", files(t, held(t, w, 0)))
	}
	record, _ := held(t, w, 0).Get(got)
	if y, e := object.GetCommit(record); e != api.OK || y.Author != "me" || y.Note != "both" || y.Stamp != 7 || len(y.Parents) != 2 {
		t.Errorf("the snapshot is another one: %v %v", y, e)
	}
	made(t, w, 1, "a", "q|2|y|")
	pulled(t, w, 0, 1)
	refuses(t, w, "Meet", api.ErrClash, func() api.Errno { return meet(t, w, 0, 1) })
	does(t, "Crash", w.Crash(0, 0, 0))
	is(t, "Meet", meet(t, w, 0, 7), api.ErrDown)
}

// meet: a Meet that answers no id beside an error.
func meet(t *testing.T, w *world.World, i, from int) api.Errno {
	t.Helper()
	id, e := w.Meet(i, from, object.Commit{})
	if e != api.OK && id != zero {
		t.Errorf("Meet: %x beside %v", id, e)
	}
	return e
}

func TestMeetAnswersAsMerge(t *testing.T) {
	texts := []string{"1|2|3|", "x|2|3|", "1|2|y|", "1|z|3|", "1|2|3|4|"}
	count := map[api.Errno]int{}
	for n := range 125 {
		w := begun(t, 2)
		made(t, w, 0, "a", texts[n%5])
		does(t, "Round", w.Round())
		does(t, "Meet", meet(t, w, 1, 0))
		wrote(t, w, 0, "a", texts[n/5%5])
		wrote(t, w, 1, "a", texts[n/25])
		for i := range 2 {
			held(t, w, i).Commit(object.Commit{Note: "c"})
		}
		fs, _ := vfs.New(api.MaxDisk)
		other, e := replica.Open(fs)
		does(t, "Open", e)
		does(t, "Round", w.Round())
		theirs := held(t, w, 1).Head()
		for _, i := range []int{0, 1} {
			// The same copy outside of any world.
			c := held(t, w, i)
			var records [][]byte
			for _, id := range c.Records() {
				b, _ := c.Get(id)
				records = append(records, b)
			}
			does(t, "Accept", other.Accept(world.Name(i), c.Head(), append(records, nil...)))
		}
		does(t, "Switch", other.Switch(held(t, w, 0).Head()))
		want, _, wrong := other.Merge(theirs, object.Commit{Note: "m"})
		got, e := w.Meet(0, 1, object.Commit{Note: "m"})
		if got != want || e != wrong {
			t.Errorf("%d: Meet: %v, not %v", n, e, wrong)
		}
		count[e]++
	}
	if count[api.OK] < 20 || count[api.ErrClash] < 20 || count[api.ErrSame] < 5 {
		t.Errorf("not all came up: %v", count)
	}
}

func TestRound(t *testing.T) {
	w := begun(t, 4)
	var ids []api.ID
	for i := range 3 {
		ids = append(ids, made(t, w, i, "a", strconv.Itoa(i)))
	}
	ids = append(ids, zero)
	does(t, "Crash", w.Crash(1, 0, 0))
	does(t, "Crash", w.Crash(3, 0, 0))
	does(t, "Pull", w.Pull(0, 1))
	does(t, "Pull", w.Pull(2, 1))
	does(t, "Round", w.Round())
	if w.Len() != 0 {
		t.Errorf("%d letters", w.Len())
	}
	for i := range 4 {
		whole(t, held(t, w, i))
		for from := range 4 {
			if from != i {
				knows(t, w, i, from, ids[from])
			}
		}
		knows(t, w, i, i, zero)
	}
	was := state(t, w)
	does(t, "Round", w.Round())
	if got := state(t, w); got != was {
		t.Errorf("%s became %s", was, got)
	}
	does(t, "Round", begun(t, 1).Round())
}

// A Round loses the letters that are on their way, whatever they would have done.
func TestRoundLosesLetters(t *testing.T) {
	w := begun(t, 2)
	made(t, w, 0, "a", "x")
	does(t, "Pull", w.Pull(1, 0))
	does(t, "Deliver", w.Deliver(0))
	does(t, "Spoil", w.Spoil(0, 0, 1))
	for range 50 {
		does(t, "Pull", w.Pull(1, 0))
	}
	does(t, "Round", w.Round())
	if w.Len() != 0 {
		t.Errorf("%d letters", w.Len())
	}
	knows(t, w, 1, 0, held(t, w, 0).Head())
	// One of them may tell of what isn't the head any more.
	first := held(t, w, 0).Head()
	made(t, w, 0, "a", "y")
	does(t, "Pull", w.Pull(1, 0))
	does(t, "Deliver", w.Deliver(0))
	does(t, "Switch", held(t, w, 0).Switch(first))
	does(t, "Round", w.Round())
	knows(t, w, 1, 0, first)
}

func TestRoundWithoutRoomEnds(t *testing.T) {
	for _, room := range []int{1000, 2000, 5000, 20000} {
		w, e := world.New(3, room)
		does(t, "New", e)
		for i := range 3 {
			for n := range 10 {
				w.Write(i, snap.File{Path: world.Name(i) + "/" + strconv.Itoa(n), Data: noise(i*10+n, room/30)})
				held(t, w, i).Commit(object.Commit{})
			}
		}
		for range 3 {
			does(t, "Round", w.Round())
			for i := range 3 {
				whole(t, held(t, w, i))
				w.Meet(i, (i+1)%3, object.Commit{})
			}
		}
	}
}

// The power of one copy goes somewhere in a Round: the others come to know one another's heads.
func TestRoundWhileThePowerGoes(t *testing.T) {
	for stop := range 40 {
		w := begun(t, 3)
		var ids []api.ID
		for i := range 3 {
			ids = append(ids, made(t, w, i, world.Name(i), "x"))
		}
		does(t, "Stop", w.Stop(1, stop))
		does(t, "Round", w.Round())
		knows(t, w, 0, 2, ids[2])
		knows(t, w, 2, 0, ids[0])
		does(t, "Crash", w.Crash(1, stop%3, stop%5))
		does(t, "Restart", w.Restart(1))
		c := held(t, w, 1)
		whole(t, c)
		if c.Head() != ids[1] || files(t, c) != "copy-1=x" {
			t.Errorf("stopped at %d: %s", stop, known(t, c))
		}
		does(t, "Round", w.Round())
		for i := range 3 {
			for from := range 3 {
				if from != i {
					knows(t, w, i, from, ids[from])
				}
			}
		}
	}
}

// Nobody is told of a head that a crash may take back.
func TestWhatIsToldIsDurable(t *testing.T) {
	told := 0
	for stop := 0; stop < 40; stop++ {
		w := begun(t, 2)
		made(t, w, 0, "a", "x")
		wrote(t, w, 0, "a", "y")
		does(t, "Stop", w.Stop(0, stop))
		held(t, w, 0).Commit(object.Commit{})
		pulled(t, w, 1, 0)
		does(t, "Crash", w.Crash(0, 0, 0))
		does(t, "Restart", w.Restart(0))
		id, e := held(t, w, 1).Peer(world.Name(0))
		if e != api.OK {
			continue
		}
		told++
		c := held(t, w, 0)
		if comes, e := c.Comes(c.Head(), id); e != api.OK || !comes {
			t.Errorf("stopped at %d: the head doesn't come from what was told: %v", stop, e)
		}
	}
	if told == 0 {
		t.Error("nothing was told")
	}
}

// The example of the chapter.
func TestExample(t *testing.T) {
	w := begun(t, 2)
	id := made(t, w, 1, "a", "x")
	does(t, "Round", w.Round())
	knows(t, w, 0, 1, id)
	got, e := w.Meet(0, 1, object.Commit{})
	if c := held(t, w, 0); e != api.OK || got != id || c.Head() != id || files(t, c) != "a=x" {
		t.Errorf("Meet: %v", e)
	}
}

// P1

func TestCallsOfAnyArgumentsEnd(t *testing.T) {
	numbers := []int{math.MinInt, -1, 0, 1, 2, 3, 8, 1024, math.MaxInt}
	long := object.Commit{Parents: make([]api.ID, 100), Stamp: math.NaN(), Author: strings.Repeat("\xff", 1000), Note: strings.Repeat("\n", 5000)}
	w := begun(t, 3)
	made(t, w, 1, "a", "x")
	everything := func() {
		for _, i := range numbers {
			world.Name(i)
			w.Copy(i)
			w.Write(i, snap.File{Path: strings.Repeat("/", i&1023), Data: []byte{0}, Stamp: math.Inf(1)})
			for _, k := range numbers {
				w.Pull(i, k)
				w.Double(i)
				w.Spoil(i, k, byte(k))
				w.Deliver(k)
				w.Drop(i)
				w.Meet(i, k, long)
				w.Meet(i, k, object.Commit{})
				w.Stop(i, k)
				w.Crash(i, k, k)
				w.Restart(k)
				w.Pull(k, i)
			}
		}
		w.Len()
		w.Copies()
		w.Round()
	}
	everything()
	everything()
	for i := range 3 {
		w.Crash(i, 0, 0)
		does(t, "Restart", w.Restart(i))
		whole(t, held(t, w, i))
	}
}
