package replica_test

import (
	"bytes"
	"math/rand"
	"slices"
	"strconv"
	"strings"
	"testing"

	"towline/api"
	"towline/object"
	"towline/replica"
	"towline/snap"
	"towline/vfs"
)

// P22.7: the power goes at any step, and a crash keeps any part.

// how much of what isn't durable a crash keeps.
var (
	someActs  = []int{-1, 1, 2, 3, 5, 100}
	someBytes = []int{-1, 20, 1 << 20}
)

// doing is a call that has no error but where the power goes.
type doing func(c *replica.Replica) api.Errno

// behind: what is known of the copy in a file system, once a call was done there.
func (do doing) behind(t *testing.T, fs *vfs.FS) string {
	t.Helper()
	c := opened(t, fs.Fork())
	does(t, "the call", do(c))
	return known(t, c)
}

// anywhere: the call is cut off at each step, and behind a crash the copy is as it was ahead of it, or behind it.
func (do doing) anywhere(t *testing.T, fs *vfs.FS) {
	t.Helper()
	was, is := known(t, opened(t, fs.Fork())), do.behind(t, fs)
	found := map[string]int{}
	for stop, done := 0, false; !done; stop++ {
		for _, acts := range someActs {
			for _, n := range someBytes {
				f := fs.Fork()
				c := opened(t, f)
				f.Stop(stop)
				e := do(c)
				if done = e == api.OK; !done && e != api.ErrCut {
					t.Fatalf("cut off at step %d: %v", stop, e)
				}
				if !done && stop > 0 && acts == 3 {
					// Nothing is promised of calls then, but the copy is still one of the two.
					f.Stop(-1)
					tries(c)
				}
				f.Crash(acts, n)
				if acts == 2 && n == 20 {
					do.openCut(t, f, was, is)
				}
				c = opened(t, f)
				got := known(t, c)
				if got != is && (done || got != was) {
					t.Fatalf("cut off at step %d, %d %d: %s and %s became %s", stop, acts, n, was, is, got)
				}
				found[got]++
				goesOn(t, f, c)
			}
		}
		if t.Failed() {
			t.Fatalf("cut off at step %d", stop)
		}
	}
	if len(found) < 2 && was != is {
		t.Errorf("no crash tells %q from %q", was, is)
	}
}

// tries: each call that changes a copy.
func tries(c *replica.Replica) {
	head := c.Head()
	c.Write(snap.File{Path: "tried", Data: []byte("t")})
	c.Remove("a")
	c.Commit(object.Commit{Note: "tried"})
	c.Switch(head)
	c.Accept("o", head, [][]byte{[]byte("tried")})
	if other, e := c.Peer("you"); e == api.OK {
		c.Merge(other, object.Commit{Note: "tried"})
	}
	c.Collect()
}

// openCut: Open is cut off at each step behind the crash, and called again behind another one.
func (do doing) openCut(t *testing.T, fs *vfs.FS, was, is string) {
	t.Helper()
	for stop, done := 0, false; !done; stop++ {
		f := fs.Fork()
		f.Stop(stop)
		c, e := replica.Open(f)
		if done = e == api.OK; done != (c != nil) || !done && e != api.ErrCut {
			t.Fatalf("Open cut off at step %d: %v", stop, e)
		}
		f.Crash(stop%4-1, stop%3*20)
		c = opened(t, f)
		if got := known(t, c); got != was && got != is {
			t.Fatalf("Open cut off at step %d: %s and %s became %s", stop, was, is, got)
		}
		whole(t, c)
	}
}

// goesOn: the copy is whole and durable, and goes on.
func goesOn(t *testing.T, fs *vfs.FS, c *replica.Replica) {
	t.Helper()
	whole(t, c)
	was := known(t, c)
	fs.Crash(0, 0)
	c = opened(t, fs)
	if got := known(t, c); got != was {
		t.Errorf("behind another crash %s became %s", was, got)
	}
	whole(t, c)
	if fs.Left() < 1<<16 {
		return
	}
	lay(t, c, "")
	does(t, "Write", c.Write(snap.File{Path: "new", Data: []byte("n")}))
	old := c.Head()
	id, e := c.Commit(object.Commit{Note: "goes on"})
	does(t, "Commit", e)
	has(t, c, id, "new=n")
	if old != zero {
		turned(t, c, old)
	}
	if _, e := c.Collect(); e != api.OK {
		t.Errorf("Collect: %v", e)
	}
	whole(t, c)
}

func committed(x object.Commit) doing {
	return func(c *replica.Replica) api.Errno { _, e := c.Commit(x); return e }
}

func switched(id api.ID) doing {
	return func(c *replica.Replica) api.Errno { return c.Switch(id) }
}

func merged(other api.ID) doing {
	return func(c *replica.Replica) api.Errno { _, _, e := c.Merge(other, object.Commit{Note: "merged"}); return e }
}

func accepted(name string, id api.ID, records [][]byte) doing {
	return func(c *replica.Replica) api.Errno { return c.Accept(name, id, records) }
}

func collected(c *replica.Replica) api.Errno { _, e := c.Collect(); return e }

func wrote(f snap.File) doing {
	return func(c *replica.Replica) api.Errno { return c.Write(f) }
}

func removed(p string) doing {
	return func(c *replica.Replica) api.Errno { return c.Remove(p) }
}

func TestOpenCutAnywhere(t *testing.T) {
	for _, acts := range someActs {
		for _, n := range someBytes {
			for stop, done := 0, false; !done; stop++ {
				fs := disk(t, 100000)
				fs.Stop(stop)
				c, e := replica.Open(fs)
				if done = e == api.OK; done != (c != nil) || !done && e != api.ErrCut {
					t.Fatalf("Open cut off at step %d: %v", stop, e)
				}
				fs.Crash(acts, n)
				c = opened(t, fs)
				has(t, c, zero, "")
				goesOn(t, fs, c)
			}
		}
	}
}

func TestCommitCutAnywhere(t *testing.T) {
	fs := disk(t, 200000)
	c := opened(t, fs)
	lay(t, c, "a=x b/c=y")
	committed(object.Commit{}).anywhere(t, fs)
	first := made(t, c, "a=x b/c=y")
	lay(t, c, "a=z b/c@2=y")
	committed(object.Commit{Note: "n"}).anywhere(t, fs)
	made(t, c, "a=z")
	turned(t, c, first)
	lay(t, c, "a=z")
	committed(object.Commit{Note: "another"}).anywhere(t, fs)
}

func TestSwitchCutAnywhere(t *testing.T) {
	b := box{}
	one := b.snapshot(t, "a=1 b/c=2 d=3", "one")
	two := b.snapshot(t, "a/x=1 b=2 d=4", "two", one)
	same := b.snapshot(t, "a/x=1 b=2 d=4", "same", two)
	none := b.snapshot(t, "", "none", same)
	fs := disk(t, 200000)
	c := opened(t, fs)
	does(t, "Accept", c.Accept("you", none, b.all()))
	switched(one).anywhere(t, fs)
	switched(none).anywhere(t, fs)
	for _, pair := range [][2]api.ID{{one, two}, {two, same}, {same, one}, {one, none}, {none, two}, {two, two}} {
		turned(t, c, pair[0])
		switched(pair[1]).anywhere(t, fs)
	}
}

func TestMergeCutAnywhere(t *testing.T) {
	b := box{}
	root := b.snapshot(t, "a=1|2|3| b=1", "root")
	ours := b.snapshot(t, "a=0|2|3| b=1 c=9", "ours", root)
	theirs := b.snapshot(t, "a=1|2|4| b/d=2", "theirs", root)
	fs := disk(t, 200000)
	c := opened(t, fs)
	does(t, "Accept", c.Accept("you", theirs, b.all()))
	merged(theirs).anywhere(t, fs)
	turned(t, c, ours)
	merged(theirs).anywhere(t, fs)
	turned(t, c, root)
	merged(theirs).anywhere(t, fs)
}

func TestAcceptCutAnywhere(t *testing.T) {
	b := box{}
	first := b.snapshot(t, "a=x b/c=y", "first")
	fs := disk(t, 200000)
	c := opened(t, fs)
	made(t, c, "a=own")
	accepted("you", first, b.all()).anywhere(t, fs)
	does(t, "Accept", c.Accept("you", first, b.all()))
	second := b.snapshot(t, "a=z", "second", first)
	accepted("you", second, b.all()).anywhere(t, fs)
	accepted("you", first, append(b.all(), []byte("junk"))).anywhere(t, fs)
	accepted("p/q", second, append(b.all(), []byte("junk"))).anywhere(t, fs)
}

func TestCollectCutAnywhere(t *testing.T) {
	fs := disk(t, 200000)
	c := opened(t, fs)
	doing(collected).anywhere(t, fs)
	first := made(t, c, "a=x")
	doing(collected).anywhere(t, fs)
	made(t, c, "a=y b/c=z")
	turned(t, c, first)
	b := box{}
	does(t, "Accept", c.Accept("you", b.snapshot(t, "q=1", "yours"), b.all()))
	lay(t, c, "a=w")
	doing(collected).anywhere(t, fs)
}

func TestWriteAndRemoveCutAnywhere(t *testing.T) {
	fs := disk(t, 200000)
	c := opened(t, fs)
	wrote(snap.File{Path: "a/b", Data: []byte("x"), Stamp: 2}).anywhere(t, fs)
	made(t, c, "a/b=x c=y")
	wrote(snap.File{Path: "a/b", Data: []byte("z")}).anywhere(t, fs)
	wrote(snap.File{Path: "n"}).anywhere(t, fs)
	removed("c").anywhere(t, fs)
}

func TestCutAnywhereWithJustEnoughRoom(t *testing.T) {
	b := box{}
	text := strings.Repeat("l|", 80)
	root := b.snapshot(t, "a=1|"+text+"2| b=3 o=", "root")
	ours := b.snapshot(t, "a=0|"+text+"2| b=3", "ours", root)
	theirs := b.snapshot(t, "a=1|"+text+"4| c/d=5", "theirs", root)
	fs := disk(t, 60000)
	c := opened(t, fs)
	does(t, "Accept", c.Accept("you", theirs, b.all()))
	turned(t, c, ours)
	next := b.snapshot(t, "a=1|"+text+"4| e=5", "next", theirs)
	for _, do := range []doing{switched(root), switched(theirs), merged(theirs), accepted("you", next, b.all()), collected} {
		enough := 0
		for ; ; enough++ {
			f := fs.Fork()
			leave(t, f, enough)
			c := opened(t, f)
			if enough%100 == 0 {
				refuses(t, c, f, "a call without room", api.ErrFull, func() api.Errno { return do(c) })
				continue
			}
			if e := do(c); e == api.OK {
				leave(t, fs, enough)
				break
			} else if e != api.ErrFull {
				t.Fatalf("%d bytes are left: %v", enough, e)
			}
		}
		do.anywhere(t, fs)
	}
	lay(t, c, "a=5 n=6")
	for enough := 0; ; enough++ {
		f := fs.Fork()
		leave(t, f, enough)
		if e := committed(object.Commit{})(opened(t, f)); e == api.OK {
			leave(t, fs, enough)
			break
		}
	}
	committed(object.Commit{}).anywhere(t, fs)
}

// noise: so many bytes, of which no two parts are alike.
func noise(seed int64, n int) []byte {
	b := make([]byte, n)
	rand.New(rand.NewSource(seed)).Read(b)
	return bytes.ReplaceAll(b, []byte{0}, []byte{1})
}

// size: how many bytes all files and records of a copy have.
func size(t *testing.T, c *replica.Replica) int {
	t.Helper()
	n := 0
	l, _ := c.Files()
	for _, f := range l {
		n += len(f.Data)
	}
	for _, id := range c.Records() {
		n += len(record(t, c, id))
	}
	return n
}

func TestRoomEnough(t *testing.T) {
	b := box{}
	snapshot := func(note string, data []byte, parents ...api.ID) api.ID {
		root, e := snap.Scan(b, []snap.File{{Path: "a", Data: data}, {Path: "n", Data: []byte(note)}})
		does(t, "Scan", e)
		return b.commit(t, root, note, parents...)
	}
	first := snapshot("first", noise(1, 60000))
	ours := snapshot("first", noise(2, 60000), first)
	theirs := snapshot("theirs", noise(1, 60000), first)
	none := b.snapshot(t, "", "none", first)
	records := b.all()
	far := snapshot("far", noise(3, 70000), theirs)
	for _, x := range []struct {
		name string
		head api.ID
		do   doing
	}{
		{"Accept", zero, accepted("o", theirs, records)},
		{"Accept", first, accepted("o", theirs, records)},
		{"Accept", first, accepted("o", far, b.all())},
		{"Switch", zero, switched(ours)},
		{"Switch", first, switched(ours)},
		{"Switch", ours, switched(none)},
		{"Merge", zero, merged(ours)},
		{"Merge", first, merged(ours)},
		{"Merge", ours, merged(theirs)},
		{"Merge", theirs, merged(ours)},
		{"Collect", ours, collected},
		{"Commit", ours, func(c *replica.Replica) api.Errno {
			does(t, "Remove", c.Remove("n"))
			return committed(object.Commit{})(c)
		}},
	} {
		c, fs := begun(t)
		does(t, "Accept", c.Accept("you", first, append(records, noise(9, 20000))))
		if x.head != zero {
			turned(t, c, x.head)
		}
		leave(t, fs, 500000)
		does(t, x.name, x.do(c))
		if n := size(t, c); n > 300000 || n < 150000 {
			t.Errorf("%s: %d bytes", x.name, n)
		}
	}
	c, fs := begun(t)
	does(t, "Write", c.Write(snap.File{Path: "a", Data: noise(4, 150000)}))
	does(t, "Write", c.Write(snap.File{Path: "b", Data: noise(5, 150000)}))
	leave(t, fs, 500000)
	does(t, "Commit", committed(object.Commit{})(c))
}

// TestManyCallsCutAnywhere goes on and on with two copies that tell each other what they have.
func TestManyCallsCutAnywhere(t *testing.T) {
	r := rand.New(rand.NewSource(7))
	count := map[api.Errno]int{}
	for range 60 {
		disks := []*vfs.FS{disk(t, 1<<19), disk(t, 1<<19)}
		copies := []*replica.Replica{opened(t, disks[0]), opened(t, disks[1])}
		for range 60 {
			i := r.Intn(2)
			do := anyCall(r, copies[i], copies[1-i])
			fs, c := disks[i], copies[i]
			was := known(t, c)
			fork := fs.Fork()
			next := opened(t, fork)
			e := do(next)
			is := known(t, next)
			if e != api.OK && is != was {
				t.Fatalf("%v, and %s became %s", e, was, is)
			}
			if r.Intn(2) == 0 {
				fs.Stop(r.Intn(fork.Steps() + 2))
			}
			got := do(c)
			count[got]++
			if got != e && got != api.ErrCut {
				t.Fatalf("%v, not %v", got, e)
			}
			if got == api.ErrCut || r.Intn(5) == 0 {
				fs.Crash(r.Intn(8)-1, r.Intn(60)-10)
				copies[i] = opened(t, fs)
			}
			fs.Stop(-1)
			now := known(t, copies[i])
			if now != is && (now != was || got != api.ErrCut) {
				t.Fatalf("%v: %s and %s became %s", got, was, is, now)
			}
			whole(t, copies[i])
		}
	}
	for _, e := range []api.Errno{api.OK, api.ErrCut, api.ErrSame, api.ErrState, api.ErrClash, api.ErrMissing, api.ErrOrder} {
		if count[e] < 20 {
			t.Errorf("%v came up %d times", e, count[e])
		}
	}
}

// anyCall: some call of a copy, which may ask another one for what it has.
func anyCall(r *rand.Rand, c, other *replica.Replica) doing {
	ids := append(slices.Clone(c.Records()), c.Head(), other.Head(), api.ID{byte(r.Intn(3))})
	slices.SortFunc(ids, func(a, b api.ID) int { return bytes.Compare(a[:], b[:]) })
	id := ids[r.Intn(len(ids))]
	if p, e := c.Peer("you"); e == api.OK && r.Intn(2) == 0 {
		id = p
	}
	f := snap.File{Path: []string{"f", "g", "d/x", "d"}[r.Intn(4)], Data: []byte(strconv.Itoa(r.Intn(2)) + "\nm\n" + strconv.Itoa(r.Intn(2)) + "\n"), Stamp: float64(r.Intn(2))}
	x := object.Commit{Note: strconv.Itoa(r.Intn(1000))}
	switch r.Intn(10) {
	case 0, 1:
		return wrote(f)
	case 2:
		return removed(f.Path)
	case 3, 4:
		return committed(x)
	case 5:
		return switched(id)
	case 6:
		return merged(id)
	case 7:
		return collected
	case 8:
		return accepted("you", id, nil)
	}
	var records [][]byte
	for _, id := range other.Records() {
		b, _ := other.Get(id)
		records = append(records, b)
	}
	return accepted("you", other.Head(), records)
}
