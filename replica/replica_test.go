package replica_test

import (
	"bytes"
	"math"
	"slices"
	"strconv"
	"strings"
	"testing"

	"towline/api"
	"towline/collect"
	"towline/object"
	"towline/replica"
	"towline/sha"
	"towline/snap"
	"towline/vfs"
)

var zero api.ID

// box is a shelf, and a source of texts.
type box map[api.ID][]byte

func (b box) Put(data []byte) (api.ID, api.Errno) {
	id := sha.Sum(data)
	b[id] = bytes.Clone(data)
	return id, api.OK
}

func (b box) Get(id api.ID) ([]byte, api.Errno) {
	data, there := b[id]
	if !there {
		return nil, api.ErrMissing
	}
	return data, api.OK
}

func (b box) Text(id api.ID) ([]byte, api.Errno) { return snap.Data(b, id) }

// all: the records of a box, in some order that is always the same.
func (b box) all(but ...api.ID) [][]byte {
	var out [][]byte
	for id, data := range b {
		if !slices.Contains(but, id) {
			out = append(out, data)
		}
	}
	slices.SortFunc(out, bytes.Compare)
	return out
}

// snapshot: one of these files, that comes from others; all its records are in the box.
func (b box) snapshot(t *testing.T, files, note string, parents ...api.ID) api.ID {
	t.Helper()
	root, e := snap.Scan(b, parse(files))
	does(t, "Scan of "+files, e)
	return b.commit(t, root, note, parents...)
}

// commit: a snapshot's record, of any tree.
func (b box) commit(t *testing.T, root api.ID, note string, parents ...api.ID) api.ID {
	t.Helper()
	id, e := snap.Commit(b, object.Commit{Tree: root, Parents: parents, Note: note})
	does(t, "Commit of "+note, e)
	return id
}

// put: a record of any kind.
func (b box) put(data []byte, e api.Errno) api.ID {
	if e != api.OK {
		panic(e)
	}
	id, _ := b.Put(data)
	return id
}

// parse: files from a text like `a=x b/c@2=1|2|`: a is x, and b/c the lines 1 and 2, at 2.
func parse(files string) []snap.File {
	var out []snap.File
	for _, field := range strings.Fields(files) {
		name, text, _ := strings.Cut(field, "=")
		name, stamp, _ := strings.Cut(name, "@")
		f := snap.File{Path: name, Data: []byte(strings.ReplaceAll(text, "|", "\n"))}
		f.Stamp, _ = strconv.ParseFloat(stamp, 64)
		out = append(out, f)
	}
	return snap.Sorted(out)
}

// show: files as such a text.
func show(l []snap.File) string {
	var out []string
	for _, f := range l {
		name := f.Path
		if math.Float64bits(f.Stamp) != 0 {
			name += "@" + strconv.FormatFloat(f.Stamp, 'g', -1, 64)
		}
		out = append(out, name+"="+strings.ReplaceAll(string(f.Data), "\n", "|"))
	}
	return strings.Join(out, " ")
}

func disk(t *testing.T, room int) *vfs.FS {
	t.Helper()
	fs, e := vfs.New(room)
	does(t, "New", e)
	return fs
}

// leave: a file of somebody else's takes all room but so many bytes.
func leave(t *testing.T, fs *vfs.FS, left int) {
	t.Helper()
	if _, e := fs.Read("other"); e == api.ErrMissing {
		does(t, "Create", fs.Create("other"))
	}
	does(t, "Cut", fs.Cut("other", 0))
	does(t, "Append", fs.Append("other", make([]byte, fs.Left()-left)))
	does(t, "Sync", fs.Sync("other"))
	does(t, "Flush", fs.Flush())
}

func opened(t *testing.T, fs *vfs.FS) *replica.Replica {
	t.Helper()
	c, e := replica.Open(fs)
	does(t, "Open", e)
	return c
}

// begun: a copy in a file system of its own, with as much room as there may be.
func begun(t *testing.T) (*replica.Replica, *vfs.FS) {
	t.Helper()
	fs := disk(t, api.MaxDisk)
	return opened(t, fs), fs
}

func does(t *testing.T, what string, e api.Errno) {
	t.Helper()
	if e != api.OK {
		t.Fatalf("%s: %v", what, e)
	}
}

func is(t *testing.T, what string, e, want api.Errno) {
	t.Helper()
	if e != want {
		t.Errorf("%s: %v, not %v", what, e, want)
	}
}

// lay: the working tree has just these files.
func lay(t *testing.T, c *replica.Replica, files string) {
	t.Helper()
	l, e := c.Files()
	does(t, "Files", e)
	for _, f := range l {
		does(t, "Remove of "+f.Path, c.Remove(f.Path))
	}
	for _, f := range parse(files) {
		does(t, "Write of "+f.Path, c.Write(f))
	}
}

// made: a snapshot of these files is the head.
func made(t *testing.T, c *replica.Replica, files string) api.ID {
	t.Helper()
	lay(t, c, files)
	note := files[:min(len(files), 100)]
	id, e := c.Commit(object.Commit{Author: "me", Note: note})
	does(t, "Commit of "+note, e)
	return id
}

// turned: the working tree is that of a snapshot.
func turned(t *testing.T, c *replica.Replica, id api.ID) {
	t.Helper()
	does(t, "Switch", c.Switch(id))
}

// has: the head, and the working tree.
func has(t *testing.T, c *replica.Replica, head api.ID, files string) {
	t.Helper()
	if got := c.Head(); got != head {
		t.Errorf("the head is %.8s, not %.8s", sha.Hex(got), sha.Hex(head))
	}
	if got := there(t, c); got != show(parse(files)) {
		t.Errorf("the working tree is %.200q, not %.200q", got, files)
	}
}

// there: the working tree.
func there(t *testing.T, c *replica.Replica) string {
	t.Helper()
	l, e := c.Files()
	does(t, "Files", e)
	return show(l)
}

// names are those by which peers are asked for.
var names = []string{"you", "p/q", "head", "head.next", "head.new", "o"}

// known: the head, the working tree and the peers, as a text.
func known(t *testing.T, c *replica.Replica) string {
	t.Helper()
	out := sha.Hex(c.Head()) + " " + there(t, c)
	for _, name := range names {
		if id, e := c.Peer(name); e == api.OK {
			out += " " + name + ":" + sha.Hex(id)
		}
	}
	return out
}

// sorted: the ids of all records.
func sorted(c *replica.Replica) []api.ID {
	ids := slices.Clone(c.Records())
	slices.SortFunc(ids, func(a, b api.ID) int { return bytes.Compare(a[:], b[:]) })
	return ids
}

// state: all that can be told of a copy now, and of it behind a crash that keeps nothing.
func state(t *testing.T, c *replica.Replica, fs *vfs.FS) string {
	t.Helper()
	out := ""
	for _, c := range []*replica.Replica{c, opened(t, fs.Fork())} {
		out += known(t, c) + "\n"
		for _, id := range sorted(c) {
			out += sha.Hex(id) + "\n"
		}
	}
	return out
}

// refuses: a call has an error, and nothing has changed.
func refuses(t *testing.T, c *replica.Replica, fs *vfs.FS, what string, want api.Errno, call func() api.Errno) {
	t.Helper()
	was := state(t, c, fs)
	is(t, what, call(), want)
	if got := state(t, c, fs); got != was {
		t.Errorf("%s: %s became %s", what, was, got)
	}
}

func committing(t *testing.T, c *replica.Replica, x object.Commit) func() api.Errno {
	return func() api.Errno {
		id, e := c.Commit(x)
		if e != api.OK && id != zero {
			t.Errorf("Commit: %x beside %v", id, e)
		}
		return e
	}
}

func switching(c *replica.Replica, id api.ID) func() api.Errno {
	return func() api.Errno { return c.Switch(id) }
}

// merging: the call answers outcomes only if it has no error, or ErrClash.
func merging(t *testing.T, c *replica.Replica, other api.ID, x object.Commit) func() api.Errno {
	return func() api.Errno {
		id, out, e := c.Merge(other, x)
		if e != api.OK && id != zero || e != api.OK && e != api.ErrClash && len(out) > 0 {
			t.Errorf("Merge: %x and %d outcomes beside %v", id, len(out), e)
		}
		return e
	}
}

func accepting(c *replica.Replica, name string, id api.ID, records ...[]byte) func() api.Errno {
	return func() api.Errno { return c.Accept(name, id, records) }
}

// whole: all that can be reached from the head and the peers is there.
func whole(t *testing.T, c *replica.Replica) {
	t.Helper()
	roots := []api.ID{}
	if c.Head() != zero {
		roots = append(roots, c.Head())
	}
	for _, name := range names {
		if id, e := c.Peer(name); e == api.OK {
			roots = append(roots, id)
		}
	}
	if lost := collect.Lost(c, roots...); len(lost) > 0 {
		t.Errorf("%d records are lost", len(lost))
	}
}

// P22.1

func TestOpenOfNothing(t *testing.T) {
	c, fs := begun(t)
	has(t, c, zero, "")
	if len(c.Records()) != 0 {
		t.Error("records in the beginning")
	}
	for _, name := range append(names, "", "a//b") {
		if id, e := c.Peer(name); e != api.ErrMissing || id != zero {
			t.Errorf("Peer of %q: %x %v", name, id, e)
		}
	}
	if b, e := c.Get(zero); e != api.ErrMissing || len(b) > 0 {
		t.Errorf("Get: %v", e)
	}
	if b, e := c.Text(zero); e != api.ErrMissing || len(b) > 0 {
		t.Errorf("Text: %v", e)
	}
	has(t, opened(t, fs), zero, "")
}

func TestOpenNeedsRoomOnce(t *testing.T) {
	fits := false
	for room := 0; room <= 1000; room++ {
		fs := disk(t, room)
		c, e := replica.Open(fs)
		if (e == api.OK) != (c != nil) || e != api.OK && e != api.ErrFull || fits && e != api.OK {
			t.Fatalf("Open with room for %d: %v", room, e)
		}
		fits = e == api.OK
		if fits {
			leave(t, fs, 0)
			has(t, opened(t, fs), zero, "")
		}
	}
	if !fits {
		t.Error("1000 bytes aren't enough")
	}
}

func TestOpenOfACopyNeedsNoRoom(t *testing.T) {
	c, fs := begun(t)
	first := made(t, c, "a=x")
	does(t, "Accept", c.Accept("you", first, nil))
	made(t, c, "a=y b=z")
	turned(t, c, first)
	lay(t, c, "a=w")
	leave(t, fs, 0)
	was := state(t, c, fs)
	if got := state(t, opened(t, fs), fs); got != was {
		t.Errorf("%s became %s", was, got)
	}
	fs.Crash(0, 0)
	has(t, opened(t, fs), first, "a=w")
}

func TestOpenFindsWhatLiesThere(t *testing.T) {
	c, fs := begun(t)
	first := made(t, c, "a=x")
	second := made(t, c, "a=y b/c@3=z")
	does(t, "Accept", c.Accept("you", first, nil))
	does(t, "Accept", c.Accept("p/q", second, nil))
	lay(t, c, "a=y n=1")
	was := known(t, c)
	fs.Crash(0, 0)
	c = opened(t, fs)
	if got := known(t, c); got != was {
		t.Errorf("%s became %s", was, got)
	}
	if p, e := c.Peer("you"); e != api.OK || p != first {
		t.Errorf("Peer: %v", e)
	}
	if p, e := c.Peer("p/q"); e != api.OK || p != second {
		t.Errorf("Peer: %v", e)
	}
	whole(t, c)
}

func TestACopyLeavesOtherFilesAlone(t *testing.T) {
	fs := disk(t, api.MaxDisk)
	leave(t, fs, 1<<20)
	was, _ := fs.Read("other")
	c := opened(t, fs)
	first := made(t, c, "other=x")
	made(t, c, "other/y=x")
	turned(t, c, first)
	c.Collect()
	c = opened(t, fs)
	if is, e := fs.Read("other"); e != api.OK || !bytes.Equal(is, was) {
		t.Errorf("other: %v", e)
	}
}

func TestGetRecordsAndText(t *testing.T) {
	c, _ := begun(t)
	made(t, c, "a=x")
	head := made(t, c, "a=y b=x")
	b := box{}
	if root, e := snap.Scan(b, parse("a=y b=x")); e != api.OK || !slices.Contains(c.Records(), root) {
		t.Errorf("the tree isn't there: %v", e)
	}
	first, _ := snap.Scan(b, parse("a=x"))
	x, _ := object.GetCommit(record(t, c, head))
	if y, _ := object.GetCommit(record(t, c, x.Parents[0])); y.Tree != first {
		t.Error("the first tree is another one")
	}
	ids := c.Records()
	if len(ids) != len(b)+2 {
		t.Errorf("%d records, not %d", len(ids), len(b)+2)
	}
	for id, data := range b {
		if !slices.Contains(ids, id) || !bytes.Equal(record(t, c, id), data) {
			t.Errorf("%x isn't there", id)
		}
	}
	if sorted := sorted(c); len(slices.Compact(sorted)) != len(ids) {
		t.Error("an id stands twice")
	}
	blob, _ := snap.Blob(b, []byte("y"))
	if text, e := c.Text(blob); e != api.OK || string(text) != "y" {
		t.Errorf("Text: %q %v", text, e)
	}
	if text, e := c.Text(head); e != api.ErrForm || len(text) > 0 {
		t.Errorf("Text of a snapshot: %q %v", text, e)
	}
}

func record(t *testing.T, c *replica.Replica, id api.ID) []byte {
	t.Helper()
	b, e := c.Get(id)
	does(t, "Get", e)
	return b
}

func TestTheWorkingTreeIsLayer19s(t *testing.T) {
	c, fs := begun(t)
	is(t, "Write", c.Write(snap.File{Path: "b/c", Data: []byte("1"), Stamp: math.Float64frombits(0xfff8000000000001)}), api.OK)
	is(t, "Write", c.Write(snap.File{Path: "a", Data: []byte("2"), Stamp: 2}), api.OK)
	l, _ := c.Files()
	if len(l) != 2 || l[0].Path != "a" || l[1].Path != "b/c" || math.Float64bits(l[1].Stamp) != 0x7ff8000000000000 {
		t.Errorf("Files: %v", l)
	}
	lay(t, c, "a=2")
	for want, files := range map[api.Errno][]snap.File{
		api.ErrPath:  {{Path: ""}, {Path: "a//b"}, {Path: "./a"}},
		api.ErrLong:  {{Path: strings.Repeat("a/", 15) + "a"}, {Path: strings.Repeat("abcd/", 50) + "a"}, {Path: "b", Data: make([]byte, api.MaxBlob+1)}},
		api.ErrClash: {{Path: "a/b"}},
	} {
		for _, f := range files {
			refuses(t, c, fs, "Write of "+f.Path, want, func() api.Errno { return c.Write(f) })
		}
	}
	refuses(t, c, fs, "Remove", api.ErrMissing, func() api.Errno { return c.Remove("b") })
	leave(t, fs, 0)
	refuses(t, c, fs, "Write without room", api.ErrFull, func() api.Errno { return c.Write(snap.File{Path: "b"}) })
	does(t, "Remove without room", c.Remove("a"))
	has(t, c, zero, "")
}

func TestComes(t *testing.T) {
	b := box{}
	r := b.snapshot(t, "a=r", "r")
	s := b.snapshot(t, "a=s", "s")
	x := b.snapshot(t, "a=x", "x", r)
	y := b.snapshot(t, "a=y", "y", r, s)
	z := b.snapshot(t, "a=z", "z", x, y)
	c, fs := begun(t)
	does(t, "Accept", c.Accept("you", z, b.all()))
	ids := []api.ID{r, s, x, y, z}
	from := []string{"r", "s", "rx", "rsy", "rsxyz"}
	for i, id := range ids {
		for j, other := range ids {
			want := strings.Contains(from[i], string("rsxyz"[j]))
			if comes, e := c.Comes(id, other); e != api.OK || comes != want {
				t.Errorf("Comes of %c from %c: %v %v", "rsxyz"[i], "rsxyz"[j], comes, e)
			}
		}
		if comes, e := c.Comes(id, api.ID{9}); e != api.OK || comes {
			t.Errorf("Comes from what isn't there: %v %v", comes, e)
		}
		if comes, e := c.Comes(id, zero); e != api.OK || comes {
			t.Errorf("Comes from none: %v %v", comes, e)
		}
	}
	for _, id := range []api.ID{zero, {9}} {
		if comes, e := c.Comes(id, id); e != api.ErrMissing || comes {
			t.Errorf("Comes of what isn't there: %v %v", comes, e)
		}
	}
	refuses(t, c, fs, "Comes", api.ErrMissing, func() api.Errno { _, e := c.Comes(zero, zero); return e })
}

// partly: in a copy these records are put, whatever of them is missing.
func partly(t *testing.T, c *replica.Replica, records ...[]byte) {
	t.Helper()
	b := box{}
	id := b.snapshot(t, "carrier="+strconv.Itoa(len(c.Records())), "carrier")
	if old, e := c.Peer("o"); e == api.OK {
		id = b.snapshot(t, "carrier="+strconv.Itoa(len(c.Records())), "carrier", old)
	}
	does(t, "Accept", c.Accept("o", id, append(b.all(), records...)))
}

func TestComesOfWhatIsThereInPart(t *testing.T) {
	b := box{}
	root := b.snapshot(t, "a=r", "r")
	mid := b.snapshot(t, "a=m", "m", root)
	top := b.snapshot(t, "a=t", "t", mid)
	c, fs := begun(t)
	// Only the snapshots' own records are asked for.
	partly(t, c, b[top], b[mid], b[root])
	if comes, e := c.Comes(top, root); e != api.OK || !comes {
		t.Errorf("Comes without trees: %v %v", comes, e)
	}
	c, fs = begun(t)
	partly(t, c, b[top], b[mid])
	for _, from := range []api.ID{top, mid, root, zero} {
		refuses(t, c, fs, "Comes", api.ErrMissing, func() api.Errno {
			comes, e := c.Comes(top, from)
			if comes {
				t.Error("true beside an error")
			}
			return e
		})
	}
}

func TestWhatIsNoSnapshotComesFromNothing(t *testing.T) {
	b := box{}
	chunk := b.put(object.PutChunk([]byte("x")))
	junk := b.put([]byte("junk"), api.OK)
	root, _ := snap.Scan(b, nil)
	for _, id := range []api.ID{chunk, junk, root} {
		x := b.commit(t, root, "x", id)
		c, _ := begun(t)
		partly(t, c, b.all()...)
		if comes, e := c.Comes(id, id); e != api.OK || comes {
			t.Errorf("Comes: %v %v", comes, e)
		}
		if comes, e := c.Comes(x, id); e != api.OK || !comes {
			t.Errorf("Comes of what has it as a parent: %v %v", comes, e)
		}
	}
}

// P22.1, P22.2

func TestTheWorkingTreeIsHeldAgainstTheHeads(t *testing.T) {
	nan := math.Float64frombits(0xfff8000000000001)
	for _, now := range []struct {
		same bool
		l    []snap.File
	}{
		{true, []snap.File{{Path: "a", Data: []byte("x"), Stamp: 1}, {Path: "b", Stamp: math.NaN()}, {Path: "c/d"}}},
		{true, []snap.File{{Path: "a", Data: []byte("x"), Stamp: 1}, {Path: "b", Stamp: nan}, {Path: "c/d"}}},
		{false, []snap.File{{Path: "a", Data: []byte("y"), Stamp: 1}, {Path: "b", Stamp: nan}, {Path: "c/d"}}},
		{false, []snap.File{{Path: "a", Data: []byte("x"), Stamp: 2}, {Path: "b", Stamp: nan}, {Path: "c/d"}}},
		{false, []snap.File{{Path: "a", Data: []byte("x"), Stamp: 1}, {Path: "b", Stamp: nan}, {Path: "c/d", Stamp: math.Copysign(0, -1)}}},
		{false, []snap.File{{Path: "a", Data: []byte("x"), Stamp: 1}, {Path: "b", Stamp: 0}, {Path: "c/d"}}},
		{false, []snap.File{{Path: "a", Data: []byte("x"), Stamp: 1}, {Path: "b", Stamp: nan}, {Path: "c/e"}}},
		{false, []snap.File{{Path: "a", Data: []byte("x"), Stamp: 1}, {Path: "b", Stamp: nan}}},
		{false, []snap.File{{Path: "a", Data: []byte("x"), Stamp: 1}, {Path: "b", Stamp: nan}, {Path: "c/d"}, {Path: "e"}}},
		{false, nil},
	} {
		c, fs := begun(t)
		for _, f := range []snap.File{{Path: "a", Data: []byte("x"), Stamp: 1}, {Path: "b", Stamp: math.NaN()}, {Path: "c/d"}} {
			does(t, "Write", c.Write(f))
		}
		head, e := c.Commit(object.Commit{})
		does(t, "Commit", e)
		lay(t, c, "")
		for _, f := range now.l {
			does(t, "Write", c.Write(f))
		}
		if now.same {
			refuses(t, c, fs, "Commit of the head's files", api.ErrSame, committing(t, c, object.Commit{Note: "another"}))
			turned(t, c, head)
			continue
		}
		refuses(t, c, fs, "Switch", api.ErrState, switching(c, head))
		if _, e := c.Commit(object.Commit{}); e != api.OK {
			t.Errorf("Commit of %v: %v", now.l, e)
		}
	}
}

// P22.2

func TestExample(t *testing.T) {
	c, _ := begun(t)
	first := made(t, c, "a=x")
	second := made(t, c, "a=y")
	has(t, c, second, "a=y")
	turned(t, c, first)
	has(t, c, first, "a=x")
	if _, e := c.Commit(object.Commit{}); e != api.ErrSame {
		t.Errorf("Commit: %v", e)
	}
}

func TestCommit(t *testing.T) {
	c, fs := begun(t)
	b := box{}
	var parents []api.ID
	for _, files := range []string{"", "a=x", "a=x b/c@-1=y", "b=1|2|", "b=1|2| c@7="} {
		lay(t, c, files)
		x := object.Commit{Tree: api.ID{1}, Parents: []api.ID{{3}, {2}}, Stamp: 1.5, Author: "me", Note: "of " + files}
		id, e := c.Commit(x)
		does(t, "Commit of "+files, e)
		has(t, c, id, files)
		root, _ := snap.Scan(b, parse(files))
		want, _ := snap.Commit(b, object.Commit{Tree: root, Parents: parents, Stamp: 1.5, Author: "me", Note: "of " + files})
		if id != want {
			t.Errorf("Commit of %q: another snapshot", files)
		}
		parents = []api.ID{id}
		whole(t, c)
		was := known(t, c)
		fs.Crash(0, 0)
		c = opened(t, fs)
		if got := known(t, c); got != was {
			t.Errorf("%s became %s", was, got)
		}
		whole(t, c)
	}
	if len(c.Records()) != len(b) {
		t.Errorf("%d records, not %d", len(c.Records()), len(b))
	}
}

func TestCommitOfWhatIsThereAlready(t *testing.T) {
	c, _ := begun(t)
	first := made(t, c, "a=x")
	second := made(t, c, "a=y")
	turned(t, c, first)
	n := len(c.Records())
	if made(t, c, "a=y") != second || len(c.Records()) != n {
		t.Error("the same snapshot is another one")
	}
	made(t, c, "a=x")
	if len(c.Records()) != n+1 {
		t.Errorf("%d records, not %d", len(c.Records()), n+1)
	}
}

func TestCommitOfTooLongTexts(t *testing.T) {
	c, fs := begun(t)
	lay(t, c, "a=x")
	for _, x := range []object.Commit{{Author: strings.Repeat("a", 65)}, {Note: strings.Repeat("a", 1025)}} {
		refuses(t, c, fs, "Commit", api.ErrLong, committing(t, c, x))
	}
	id, e := c.Commit(object.Commit{Author: strings.Repeat("a", 64), Note: strings.Repeat("a", 1024)})
	does(t, "Commit", e)
	has(t, c, id, "a=x")
	refuses(t, c, fs, "Commit", api.ErrSame, committing(t, c, object.Commit{Note: strings.Repeat("a", 1025)}))
}

func TestCommitOfTooManyFiles(t *testing.T) {
	c, fs := begun(t)
	for i := range 256 {
		does(t, "Write", c.Write(snap.File{Path: strconv.Itoa(i)}))
	}
	_, e := c.Commit(object.Commit{})
	does(t, "Commit of 256", e)
	does(t, "Write", c.Write(snap.File{Path: "a"}))
	refuses(t, c, fs, "Commit of 257", api.ErrLong, committing(t, c, object.Commit{}))
	leave(t, fs, 0)
	refuses(t, c, fs, "Commit of 257 without room", api.ErrFull, committing(t, c, object.Commit{}))
}

func TestCommitHasTheErrorsInTheirOrder(t *testing.T) {
	c, fs := begun(t)
	first := made(t, c, "a=x")
	made(t, c, "a=y")
	turned(t, c, first)
	long := object.Commit{Note: strings.Repeat("a", 1025)}
	leave(t, fs, 0)
	refuses(t, c, fs, "Commit of nothing", api.ErrSame, committing(t, c, long))
	leave(t, fs, 1000)
	lay(t, c, "a=y")
	leave(t, fs, 0)
	// All but the snapshot's own record is there already.
	refuses(t, c, fs, "Commit without room", api.ErrFull, committing(t, c, long))
	leave(t, fs, 1<<16)
	fs.Stop(0)
	is(t, "Commit of too much", committing(t, c, long)(), api.ErrLong)
	is(t, "Commit without power", committing(t, c, object.Commit{})(), api.ErrCut)
}

// P22.3

func TestSwitchFromEachToEach(t *testing.T) {
	c, fs := begun(t)
	all := []string{"", "a=x", "a@2=x", "a/b=x c=y", "c=z a.b=1 d/e/f=2", "a=x"}
	var ids []api.ID
	for _, files := range all {
		ids = append(ids, made(t, c, files))
	}
	n := len(c.Records())
	for i, from := range ids {
		for j, to := range ids {
			turned(t, c, from)
			turned(t, c, to)
			has(t, c, to, all[j])
			fs.Crash(0, 0)
			c = opened(t, fs)
			has(t, c, to, all[j])
			if t.Failed() {
				t.Fatalf("from %q to %q", all[i], all[j])
			}
		}
	}
	if len(c.Records()) != n {
		t.Error("Switch puts records")
	}
}

func TestSwitchWithoutAHead(t *testing.T) {
	b := box{}
	id := b.snapshot(t, "a=x", "n")
	c, fs := begun(t)
	does(t, "Accept", c.Accept("you", id, b.all()))
	lay(t, c, "b=y")
	refuses(t, c, fs, "Switch", api.ErrState, switching(c, id))
	lay(t, c, "")
	turned(t, c, id)
	has(t, c, id, "a=x")
}

// broken: snapshots of which something isn't as it should be, and what is none.
func broken(t *testing.T, b box) []api.ID {
	t.Helper()
	chunk := b.put(object.PutChunk([]byte("x")))
	blob := b.put(object.PutBlob(object.Blob{Chunks: []api.ID{chunk}, Size: 1}))
	short := b.put(object.PutBlob(object.Blob{Chunks: []api.ID{chunk}, Size: 2}))
	wild := b.put(object.PutBlob(object.Blob{Chunks: []api.ID{blob}, Size: 1}))
	junk := b.put([]byte("\xff"), api.OK)
	list := func(id api.ID) api.ID {
		return b.put(object.PutTree([]object.Entry{{Name: "a", ID: id}}))
	}
	good, _ := snap.Scan(b, parse("a=x"))
	return []api.ID{
		chunk, blob, good, junk, {1}, zero,
		b.commit(t, blob, ""), b.commit(t, chunk, ""), b.commit(t, junk, ""), b.commit(t, api.ID{1}, ""),
		b.commit(t, list(chunk), ""), b.commit(t, list(short), ""), b.commit(t, list(wild), ""), b.commit(t, list(junk), ""), b.commit(t, list(api.ID{1}), ""),
		b.commit(t, good, "", chunk), b.commit(t, good, "", junk, good), b.commit(t, good, "", api.ID{1}),
		b.commit(t, blob, "", api.ID{1}),
		b.put(object.PutTree([]object.Entry{{Name: "f", Folder: true, ID: api.ID{2}}})),
	}
}

// fault: what is wrong with a snapshot, as the words tell it.
func (b box) fault(id api.ID) api.Errno {
	if len(collect.Lost(b, id)) > 0 {
		return api.ErrMissing
	}
	x, e := snap.Read(b, id)
	if e == api.OK {
		_, e = snap.Load(b, x.Tree)
	}
	return e
}

func TestSwitchToWhatIsNoWholeSnapshot(t *testing.T) {
	b := box{}
	told := map[api.Errno]int{}
	for _, id := range broken(t, b) {
		want := b.fault(id)
		told[want]++
		c, fs := begun(t)
		made(t, c, "a=x")
		partly(t, c, b.all()...)
		lay(t, c, "a=y")
		if want == api.OK {
			refuses(t, c, fs, "Switch", api.ErrState, switching(c, id))
			lay(t, c, "a=x")
			turned(t, c, id)
			has(t, c, id, "a=x")
			continue
		}
		refuses(t, c, fs, "Switch ahead of ErrState", want, switching(c, id))
		lay(t, c, "a=x")
		refuses(t, c, fs, "Switch", want, switching(c, id))
		leave(t, fs, 0)
		fs.Stop(0)
		is(t, "Switch without power", c.Switch(id), want)
	}
	for _, e := range []api.Errno{api.OK, api.ErrMissing, api.ErrForm, api.ErrKind, api.ErrShort} {
		if told[e] == 0 {
			t.Errorf("%v is told of none", e)
		}
	}
}

func TestSwitchToWrongPaths(t *testing.T) {
	for _, p := range []string{strings.Repeat("a/", 15) + "a", strings.Repeat(strings.Repeat("a", 63)+"/", 3) + strings.Repeat("a", 59), "b/" + strings.Repeat(strings.Repeat("a", 49)+"/", 4) + strings.Repeat("a", 50)} {
		b := box{}
		id := b.snapshot(t, "0=x "+p+"=y", "n")
		c, fs := begun(t)
		does(t, "Accept", c.Accept("you", id, b.all()))
		lay(t, c, "n=1")
		refuses(t, c, fs, "Switch ahead of wrong paths", api.ErrState, switching(c, id))
		lay(t, c, "")
		leave(t, fs, 0)
		refuses(t, c, fs, "Switch to "+p, api.ErrLong, switching(c, id))
	}
	b := box{}
	p := strings.Repeat(strings.Repeat("a", 63)+"/", 3) + strings.Repeat("a", 58)
	id := b.snapshot(t, "0=x "+p+"=y "+strings.Repeat("b/", 14)+"b=z", "n")
	c, _ := begun(t)
	does(t, "Accept", c.Accept("you", id, b.all()))
	turned(t, c, id)
}

func TestSwitchNeedsRoom(t *testing.T) {
	fs := disk(t, 60000)
	c := opened(t, fs)
	first := made(t, c, "a="+strings.Repeat("x", 5000)+" b=y")
	second := made(t, c, "a=z")
	fits := false
	for left := 4000; left < 6000; left++ {
		f := fs.Fork()
		leave(t, f, left)
		c := opened(t, f)
		if fits = c.Switch(first) == api.OK; fits {
			has(t, c, first, "a="+strings.Repeat("x", 5000)+" b=y")
			break
		}
		if left%50 == 0 {
			refuses(t, c, f, "Switch without room", api.ErrFull, switching(c, first))
		}
		has(t, c, second, "a=z")
	}
	if !fits {
		t.Error("there is never room enough")
	}
	leave(t, fs, 0)
	c = opened(t, fs)
	refuses(t, c, fs, "Switch without room", api.ErrFull, switching(c, first))
	lay(t, c, "")
	leave(t, fs, 0)
	refuses(t, c, fs, "Switch without room", api.ErrState, switching(c, first))
}

// P22.6

func TestAccept(t *testing.T) {
	b := box{}
	first := b.snapshot(t, "a=x", "first")
	second := b.snapshot(t, "a=y b/c=z", "second", first)
	third := b.snapshot(t, "a=y", "third", second)
	c, fs := begun(t)
	does(t, "Accept", c.Accept("you", first, b.all()))
	has(t, c, zero, "")
	if len(c.Records()) != len(b) {
		t.Errorf("%d records, not %d", len(c.Records()), len(b))
	}
	for _, id := range []api.ID{first, second, second, third} {
		does(t, "Accept", c.Accept("you", id, nil))
		fs.Crash(0, 0)
		c = opened(t, fs)
		if p, e := c.Peer("you"); e != api.OK || p != id {
			t.Errorf("Peer: %v", e)
		}
		whole(t, c)
	}
	for id, data := range b {
		if got := record(t, c, id); !bytes.Equal(got, data) {
			t.Errorf("%x is another one", id)
		}
	}
	refuses(t, c, fs, "Accept of an earlier one", api.ErrOrder, accepting(c, "you", second))
	does(t, "Accept of somebody else's", c.Accept("p/q", first, nil))
	other := b.snapshot(t, "a=w", "other", second)
	refuses(t, c, fs, "Accept of another one", api.ErrOrder, func() api.Errno {
		return c.Accept("you", other, b.all())
	})
	if p, _ := c.Peer("p/q"); p != first {
		t.Error("the peers aren't told from one another")
	}
}

func TestAcceptOfWhatIsMissing(t *testing.T) {
	b := box{}
	first := b.snapshot(t, "a=x", "first")
	second := b.snapshot(t, "a=y b/c=z", "second", first)
	for id := range b {
		c, fs := begun(t)
		refuses(t, c, fs, "Accept", api.ErrMissing, accepting(c, "you", second, b.all(id)...))
		does(t, "Accept", c.Accept("you", second, b.all()))
	}
	c, fs := begun(t)
	for _, id := range []api.ID{zero, {1}} {
		refuses(t, c, fs, "Accept", api.ErrMissing, accepting(c, "you", id, b.all()...))
		refuses(t, c, fs, "Accept", api.ErrMissing, accepting(c, "", id, b.all()...))
	}
	// ErrMissing stands ahead of ErrOrder.
	does(t, "Accept", c.Accept("you", second, b.all()))
	third := b.snapshot(t, "a=w", "third", first)
	refuses(t, c, fs, "Accept", api.ErrMissing, accepting(c, "you", third, b[third]))
}

func TestAcceptOfWhatIsNoSnapshot(t *testing.T) {
	b := box{}
	first := b.snapshot(t, "a=x", "first")
	chunk := b.put(object.PutChunk([]byte("x")))
	junk := b.put([]byte("\xff"), api.OK)
	root, _ := snap.Scan(b, parse("a=x"))
	c, fs := begun(t)
	for _, id := range []api.ID{chunk, junk, root} {
		_, want := snap.Read(b, id)
		refuses(t, c, fs, "Accept", want, accepting(c, "you", id, b.all()...))
		refuses(t, c, fs, "Accept ahead of the name", want, accepting(c, "", id, b.all()...))
	}
	does(t, "Accept", c.Accept("you", first, b.all()))
	for _, id := range []api.ID{chunk, junk, root} {
		refuses(t, c, fs, "Accept", api.ErrOrder, accepting(c, "you", id, b.all()...))
	}
	// A snapshot whose tree is anything is one, and what isn't of it stands aside.
	wild := b.commit(t, junk, "wild", first, chunk)
	does(t, "Accept", c.Accept("you", wild, b.all()))
}

func TestAcceptOfAnyRecords(t *testing.T) {
	b := box{}
	id := b.snapshot(t, "a=x", "first")
	c, fs := begun(t)
	long := make([]byte, 1<<19+1)
	refuses(t, c, fs, "Accept of too long a record", api.ErrLong, accepting(c, "", api.ID{1}, append(b.all(), long)...))
	does(t, "Accept", c.Accept("you", id, append(b.all(), nil, []byte("junk"), b[id], b[id], long[:1<<19])))
	if len(c.Records()) != len(b)+3 {
		t.Errorf("%d records, not %d", len(c.Records()), len(b)+3)
	}
	leave(t, fs, 100)
	next := b.snapshot(t, "a=y", "next", id)
	refuses(t, c, fs, "Accept without room", api.ErrFull, accepting(c, "", next, append(b.all(), long)...))
	refuses(t, c, fs, "Accept of too long a record", api.ErrLong, accepting(c, "", next, append([][]byte{long}, b.all()...)...))
}

func TestAcceptOfWrongNames(t *testing.T) {
	b := box{}
	id := b.snapshot(t, "a=x", "first")
	c, fs := begun(t)
	for name, want := range map[string]api.Errno{
		"": api.ErrPath, "/": api.ErrPath, "a//b": api.ErrPath, "..": api.ErrPath, "a\n": api.ErrPath,
		strings.Repeat("a", 65): api.ErrPath, strings.Repeat("a", 256): api.ErrLong, strings.Repeat("a/", 16) + "a": api.ErrLong,
	} {
		refuses(t, c, fs, "Accept of "+name, want, accepting(c, name, id, b.all()...))
		f := fs.Fork()
		c := opened(t, f)
		f.Stop(0)
		is(t, "Accept without power", c.Accept(name, id, b.all()), want)
	}
}

func TestAcceptOfRightNames(t *testing.T) {
	b := box{}
	id := b.snapshot(t, "a=x", "first")
	c, fs := begun(t)
	long := strings.Repeat(strings.Repeat("a", 63)+"/", 3) + strings.Repeat("a", 63)
	right := append(names, long, strings.Repeat("a/", 15)+"a", "refs", "work/a", "todo", "pack-1")
	for _, name := range right {
		does(t, "Accept of "+name, c.Accept(name, id, b.all()))
	}
	fs.Crash(0, 0)
	c = opened(t, fs)
	for _, name := range right {
		if p, e := c.Peer(name); e != api.OK || p != id {
			t.Errorf("Peer of %q: %v", name, e)
		}
	}
	has(t, c, zero, "")
}

func TestAcceptOfAsManyNamesAsThereMayBe(t *testing.T) {
	b := box{}
	id := b.snapshot(t, "a=x", "first")
	next := b.snapshot(t, "a=y", "next", id)
	c, fs := begun(t)
	made(t, c, "n=1")
	for i := range 64 {
		does(t, "Accept", c.Accept(strconv.Itoa(i), id, b.all()))
	}
	refuses(t, c, fs, "Accept of the 65th", api.ErrFull, accepting(c, "64", id))
	does(t, "Accept of the 64th", c.Accept("63", next, nil))
}

// P22.7

func TestCollect(t *testing.T) {
	c, fs := begun(t)
	if n, e := c.Collect(); n != 0 || e != api.OK {
		t.Errorf("Collect of nothing: %d %v", n, e)
	}
	first := made(t, c, "a=x")
	gone := made(t, c, "a=y b=1")
	turned(t, c, first)
	head := made(t, c, "a=z")
	b := box{}
	yours := b.snapshot(t, "y=1", "first")
	does(t, "Accept", c.Accept("you", yours, append(b.all(), []byte("junk"))))
	theirs := b.snapshot(t, "y=2", "second", yours)
	does(t, "Accept", c.Accept("p/q", theirs, b.all()))
	for range 2 {
		want, e := collect.Mark(c, head, yours, theirs)
		does(t, "Mark", e)
		slices.SortFunc(want, func(a, b api.ID) int { return bytes.Compare(a[:], b[:]) })
		was := known(t, c)
		n, e := c.Collect()
		if e != api.OK || n != len(want) || !slices.Equal(sorted(c), want) {
			t.Errorf("Collect: %d records, not %d, %v", n, len(want), e)
		}
		if got := known(t, c); got != was {
			t.Errorf("%s became %s", was, got)
		}
		fs.Crash(0, 0)
		c = opened(t, fs)
		if !slices.Equal(sorted(c), want) {
			t.Error("Collect isn't durable")
		}
		whole(t, c)
	}
	refuses(t, c, fs, "Switch to what is gone", api.ErrMissing, switching(c, gone))
	leave(t, fs, 100)
	refuses(t, c, fs, "Collect without room", api.ErrFull, func() api.Errno {
		n, e := c.Collect()
		if n != 0 {
			t.Errorf("%d beside an error", n)
		}
		return e
	})
	fs.Stop(0)
	if n, e := c.Collect(); n != 0 || e != api.ErrFull {
		t.Errorf("Collect without room and power: %d %v", n, e)
	}
}

func TestCollectKeepsWhatIsNoRecord(t *testing.T) {
	b := box{}
	junk := b.put([]byte("junk"), api.OK)
	chunk := b.put(object.PutChunk([]byte("x")))
	id := b.commit(t, junk, "wild", chunk)
	c, _ := begun(t)
	does(t, "Accept", c.Accept("you", id, append(b.all(), []byte("other"))))
	if n, e := c.Collect(); n != 3 || e != api.OK || len(c.Records()) != 3 {
		t.Errorf("Collect: %d %v", n, e)
	}
	whole(t, c)
}
