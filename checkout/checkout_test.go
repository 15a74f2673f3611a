package checkout_test

import (
	"bytes"
	"math"
	"slices"
	"strconv"
	"strings"
	"testing"

	"towline/api"
	"towline/checkout"
	"towline/object"
	"towline/path"
	"towline/refs"
	"towline/sha"
	"towline/snap"
	"towline/store"
	"towline/vfs"
)

var (
	zero      api.ID
	minusZero = math.Copysign(0, -1)
	oddNaN    = math.Float64frombits(0xfff8000000000123)
)

// box is a shelf that no crash reaches.
type box map[api.ID][]byte

func (b box) Put(data []byte) (api.ID, api.Errno) {
	id := sha.Sum(data)
	b[id] = bytes.Clone(data)
	return id, api.OK
}

func (b box) Get(id api.ID) ([]byte, api.Errno) {
	data, there := b[id]
	if !there {
		return nil, api.ErrMissing
	}
	return bytes.Clone(data), api.OK
}

// scan: the snapshot of some files, as `a=x` and `a/b=y@0.5`, on a shelf.
func scan(t *testing.T, s snap.Shelf, files string) api.ID {
	t.Helper()
	root, e := snap.Scan(s, snap.Sorted(parse(files)))
	does(t, "Scan", e)
	return root
}

// parse: files, as show tells them.
func parse(files string) []snap.File {
	var l []snap.File
	for _, word := range strings.Fields(files) {
		p, rest, _ := strings.Cut(word, "=")
		data, time, _ := strings.Cut(rest, "@")
		stamp, _ := strconv.ParseFloat(time, 64)
		l = append(l, snap.File{Path: p, Data: []byte(data), Stamp: stamp})
	}
	return l
}

// show: files, in their order.
func show(l []snap.File) string {
	var words []string
	for _, f := range l {
		word := f.Path + "=" + string(f.Data)
		if f.Stamp != 0 || math.Signbit(f.Stamp) {
			word += "@" + strconv.FormatFloat(f.Stamp, 'g', -1, 64)
		}
		words = append(words, word)
	}
	return strings.Join(words, " ")
}

// disk: a file system with room for so many bytes.
func disk(t *testing.T, room int) *vfs.FS {
	t.Helper()
	fs, e := vfs.New(room)
	does(t, "vfs.New", e)
	return fs
}

// lay: a file with these bytes, durable, that is nobody's.
func lay(t *testing.T, fs *vfs.FS, name, text string) {
	t.Helper()
	if fs.Create(name) != api.OK || fs.Append(name, []byte(text)) != api.OK || fs.Sync(name) != api.OK || fs.Flush() != api.OK {
		t.Fatalf("no file %s with %d bytes", name, len(text))
	}
}

// leave: just so many bytes are left.
func leave(t *testing.T, fs *vfs.FS, left int) {
	t.Helper()
	lay(t, fs, "other", strings.Repeat("o", fs.Left()-left))
}

// all: all that a file system tells.
func all(fs *vfs.FS) string {
	text := strconv.Itoa(fs.Steps()) + " steps"
	for _, name := range fs.List() {
		b, _ := fs.Read(name)
		text += " " + name + "=" + strconv.Quote(string(b))
	}
	return text
}

// does: a call has no error.
func does(t *testing.T, what string, e api.Errno) {
	t.Helper()
	if e != api.OK {
		t.Fatalf("%s: %v", what, e)
	}
}

// write: files come into the working tree.
func write(t *testing.T, fs *vfs.FS, files string) {
	t.Helper()
	for _, f := range parse(files) {
		does(t, "Write of "+f.Path, checkout.Write(fs, f))
	}
}

// there: the working tree's files, which are in order.
func there(t *testing.T, fs *vfs.FS) string {
	t.Helper()
	l, e := checkout.Files(fs)
	does(t, "Files", e)
	for i, f := range l {
		if i > 0 && path.Compare(l[i-1].Path, f.Path) >= 0 {
			t.Fatalf("%q stands behind %q", f.Path, l[i-1].Path)
		}
	}
	return show(l)
}

// has: the working tree has just these files.
func has(t *testing.T, fs *vfs.FS, files string) {
	t.Helper()
	if got := there(t, fs); got != files {
		t.Fatalf("the working tree is %.200q, not %.200q", got, files)
	}
}

// refuses: a call has that error, and changes nothing.
func refuses(t *testing.T, fs *vfs.FS, what string, e func() api.Errno, want api.Errno) {
	t.Helper()
	was := all(fs)
	if got := e(); got != want {
		t.Errorf("%s: %v, not %v", what, got, want)
	}
	if is := all(fs); is != was {
		t.Errorf("%s: %.300s became %.300s", what, was, is)
	}
	if root, pending := checkout.Pending(fs); pending || root != zero {
		t.Errorf("%s: %x is pending", what, root)
	}
}

// writing, removing and moving: calls that may be refused.
func writing(fs *vfs.FS, f snap.File) func() api.Errno {
	return func() api.Errno { return checkout.Write(fs, f) }
}

func removing(fs *vfs.FS, p string) func() api.Errno {
	return func() api.Errno { return checkout.Remove(fs, p) }
}

func moving(fs *vfs.FS, s snap.Shelf, root api.ID) func() api.Errno {
	return func() api.Errno { return checkout.Move(fs, s, root) }
}

// P19.1

func TestNoFilesInTheBeginning(t *testing.T) {
	fs := disk(t, 10000)
	has(t, fs, "")
	store.Open(fs)
	r, _ := refs.Open(fs)
	does(t, "Set", r.Set("work/a", zero, api.ID{1}))
	lay(t, fs, "other", "alone")
	has(t, fs, "")
	fs.Stop(0)
	has(t, fs, "")
}

func TestFilesAreInOrder(t *testing.T) {
	fs := disk(t, 10000)
	write(t, fs, "b=1 a.b=2 a/b=3@0.5 \xff=4 a/a/c=5@-1 A=6")
	has(t, fs, "A=6 a/a/c=5@-1 a/b=3@0.5 a.b=2 b=1 \xff=4")
	fs.Crash(0, 0)
	has(t, fs, "A=6 a/a/c=5@-1 a/b=3@0.5 a.b=2 b=1 \xff=4")
}

func TestStampsAreCanons(t *testing.T) {
	edges := []float64{0, minusZero, 0.5, math.Inf(1), math.Inf(-1), math.NaN(), oddNaN, math.MaxFloat64, math.SmallestNonzeroFloat64}
	fs, b := disk(t, 100000), box{}
	var files []snap.File
	for i, f := range edges {
		files = append(files, snap.File{Path: strconv.Itoa(i), Stamp: f})
		does(t, "Write", checkout.Write(fs, files[i]))
	}
	root, _ := snap.Scan(b, files)
	for range 2 {
		l, e := checkout.Files(fs)
		does(t, "Files", e)
		for i, f := range l {
			want := math.Float64bits(edges[i])
			if edges[i] != edges[i] {
				want = 0x7ff8000000000000
			}
			if got := math.Float64bits(f.Stamp); got != want {
				t.Errorf("the bits of %v are %x", edges[i], got)
			}
		}
		for _, f := range l {
			does(t, "Remove", checkout.Remove(fs, f.Path))
		}
		does(t, "Move", checkout.Move(fs, b, root))
	}
}

// P19.2

func TestWrite(t *testing.T) {
	fs := disk(t, 1<<20)
	for _, f := range []snap.File{
		{Path: "a", Data: []byte("x"), Stamp: 1}, {Path: "a", Data: []byte("x"), Stamp: 2}, {Path: "a"}, {Path: "a", Data: []byte("y\n\x00")}, {Path: "a", Data: make([]byte, api.MaxBlob)},
		{Path: "a", Data: []byte("short")}, {Path: "a", Data: []byte("short")},
	} {
		for range 2 {
			does(t, "Write", checkout.Write(fs, f))
			l, e := checkout.Files(fs)
			if e != api.OK || len(l) != 1 || l[0].Path != "a" || !bytes.Equal(l[0].Data, f.Data) || l[0].Stamp != f.Stamp {
				t.Fatalf("Files behind a Write of %d bytes: %v", len(f.Data), e)
			}
			fs.Crash(0, 0)
		}
	}
	has(t, fs, "a=short")
}

func TestTheWorkingTreeHasNamesOfItsOwn(t *testing.T) {
	fs := disk(t, 100000)
	s, _ := store.Open(fs)
	root := scan(t, s, "work=1 todo=2 packs=3 refs/a=4")
	does(t, "Sync", s.Sync())
	lay(t, fs, "other", "alone")
	lay(t, fs, "wor", "k")
	was := fs.List()
	write(t, fs, "other=x pack=y refs=z todo.new=q work/work=r")
	does(t, "Move", checkout.Move(fs, s, root))
	does(t, "Remove", checkout.Remove(fs, "packs"))
	has(t, fs, "refs/a=4 todo=2 work=1")
	for _, name := range fs.List() {
		if !slices.Contains(was, name) && !strings.HasPrefix(name, "work") && !strings.HasPrefix(name, "todo") {
			t.Errorf("a file %q", name)
		}
	}
	for name, want := range map[string]string{"other": "alone", "wor": "k"} {
		if text, e := fs.Read(name); e != api.OK || string(text) != want {
			t.Errorf("%s is %q %v", name, text, e)
		}
	}
	if s, e := store.Open(fs); e != api.OK || !s.Has(root) {
		t.Errorf("the store: %v", e)
	}
}

// tooDeep is a path that is right, but not behind `work/`.
var tooDeep = strings.Repeat("d/", 15) + "d"

// tooLong is another one, of so many bytes.
func tooLong(n int) string {
	return strings.Repeat(strings.Repeat("n", 49)+"/", 5) + strings.Repeat("n", n-250)
}

func TestWriteOfWrongPaths(t *testing.T) {
	fs := disk(t, 0)
	fs.Stop(0)
	for p, want := range map[string]api.Errno{
		"": api.ErrPath, ".": api.ErrPath, "..": api.ErrPath, "../todo": api.ErrPath, "a//b": api.ErrPath, "/a": api.ErrPath, "a/": api.ErrPath, "a\n": api.ErrPath, "\x7f": api.ErrPath,
		strings.Repeat("n", 65): api.ErrPath, strings.Repeat("n", 256): api.ErrLong, tooDeep + "/d": api.ErrLong, tooDeep: api.ErrLong, tooLong(251): api.ErrLong, tooLong(255): api.ErrLong,
		strings.Repeat("n", 65) + "/a": api.ErrPath,
		// Too long behind `work/`, but wrong by themselves, which is asked ahead of that.
		strings.Repeat("d/", 15): api.ErrPath, strings.Repeat("d/", 15) + "..": api.ErrPath, tooLong(254) + "\n": api.ErrPath,
	} {
		refuses(t, fs, "Write of "+p, writing(fs, snap.File{Path: p}), want)
		refuses(t, fs, "Write of much", writing(fs, snap.File{Path: p, Data: make([]byte, api.MaxBlob+1)}), want)
	}
	if path.Check(tooDeep) != api.OK || path.Check(tooLong(255)) != api.OK {
		t.Error("such paths are wrong by themselves")
	}
	fs = disk(t, 1000)
	write(t, fs, tooDeep[2:]+"=1 "+strings.Repeat("n", 64)+"=2 work=3 \xff=4")
	has(t, fs, tooDeep[2:]+"=1 "+strings.Repeat("n", 64)+"=2 work=3 \xff=4")
}

func TestWriteOfTheLongestPath(t *testing.T) {
	fs := disk(t, 1000)
	p := strings.Repeat(strings.Repeat("n", 49)+"/", 4) + strings.Repeat("n", 50)
	if len(p) != 250 {
		t.Fatalf("%d bytes", len(p))
	}
	does(t, "Write", checkout.Write(fs, snap.File{Path: p, Data: []byte("x")}))
	has(t, fs, p+"=x")
	does(t, "Remove", checkout.Remove(fs, p))
	has(t, fs, "")
}

func TestWriteOfTooMuch(t *testing.T) {
	fs := disk(t, api.MaxDisk)
	write(t, fs, "a=x")
	for _, p := range []string{"a", "b", "a/b"} { // ahead of the clash
		refuses(t, fs, "Write", writing(fs, snap.File{Path: p, Data: make([]byte, api.MaxBlob+1)}), api.ErrLong)
	}
}

func TestWriteOfWhatClashes(t *testing.T) {
	fs := disk(t, 1000)
	write(t, fs, "a/b/c=1 d=2 a.b=3 e/f=4")
	leave(t, fs, 0)
	fs.Stop(0)
	for _, p := range []string{"a", "a/b", "a/b/c/d", "a/b/c/d/e", "d/e", "a.b/c", "e", "e/f/g"} {
		refuses(t, fs, "Write of "+p, writing(fs, snap.File{Path: p, Data: []byte("x")}), api.ErrClash)
	}
	for _, p := range []string{"a/b/c", "a/b/d", "a/b/cc", "a/b/c.d", "aa", "a!", "d.e", "dd/e", "e/g"} {
		refuses(t, fs, "Write of "+p, writing(fs, snap.File{Path: p, Data: []byte("x")}), api.ErrFull)
	}
	has(t, fs, "a/b/c=1 a.b=3 d=2 e/f=4")
	fs = disk(t, 1000)
	write(t, fs, "a/b=1 a/c=2")
	does(t, "Remove", checkout.Remove(fs, "a/b"))
	refuses(t, fs, "Write of a", writing(fs, snap.File{Path: "a"}), api.ErrClash)
	does(t, "Remove", checkout.Remove(fs, "a/c"))
	write(t, fs, "a=3")
	has(t, fs, "a=3")
}

func TestWriteNeedsRoom(t *testing.T) {
	text := strings.Repeat("x", 50)
	for _, p := range []string{"a", "b"} {
		enough := false
		for left := range 120 {
			fs := disk(t, 1000)
			write(t, fs, "a=old")
			leave(t, fs, left)
			want := "a=old"
			if e := checkout.Write(fs.Fork(), snap.File{Path: p, Data: []byte(text)}); e == api.OK {
				enough = true
				write(t, fs, p+"="+text)
				want = map[string]string{"a": "a=" + text, "b": "a=old b=" + text}[p]
			} else {
				refuses(t, fs, "Write", writing(fs, snap.File{Path: p, Data: []byte(text)}), api.ErrFull)
				fs.Stop(0)
				refuses(t, fs, "Write", writing(fs, snap.File{Path: p, Data: []byte(text)}), api.ErrFull)
			}
			if enough && left < len(text) {
				t.Fatalf("%d bytes left are enough for %d", left, len(text))
			}
			fs.Crash(0, 0)
			has(t, fs, want)
		}
		if !enough {
			t.Error("120 bytes aren't enough for 50")
		}
	}
}

func TestRoomForFilesOfAtMost3000(t *testing.T) {
	fs := disk(t, api.MaxDisk)
	text := strings.Repeat("x", 3000)
	for i := range 300 { // more than a snapshot may have, with long paths
		does(t, "Write", checkout.Write(fs, snap.File{Path: tooLong(251)[:246] + strconv.Itoa(1000+i), Data: []byte(text)}))
	}
	leave(t, fs, 60000)
	for i := range 4 {
		does(t, "Write", checkout.Write(fs.Fork(), snap.File{Path: strconv.Itoa(i), Data: []byte(text)}))
		does(t, "Write", checkout.Write(fs.Fork(), snap.File{Path: tooLong(251)[:246] + strconv.Itoa(1000+i), Data: []byte(text)}))
	}
}

func TestWritesTakeNoRoomForGood(t *testing.T) {
	fs := disk(t, 1000)
	for i := range 200 {
		write(t, fs, "a="+strings.Repeat("x", 300+i%3))
		write(t, fs, "b=y")
		does(t, "Remove", checkout.Remove(fs, "b"))
	}
	does(t, "Remove", checkout.Remove(fs, "a"))
	if fs.Used() != 0 {
		t.Errorf("%s", all(fs))
	}
}

func TestRemove(t *testing.T) {
	fs := disk(t, 10000)
	lay(t, fs, "other", "alone")
	write(t, fs, "a/b=1 a/c=2 d=3")
	fs.Stop(0)
	for _, p := range []string{"", "a", "a/", "/d", "a//b", "a/b/c", "D", "work/d", "../other", "../work/d", "other", "todo", ".", "..", strings.Repeat("n", 300), "\xff"} {
		refuses(t, fs, "Remove of "+p, removing(fs, p), api.ErrMissing)
	}
	fs.Stop(-1)
	for _, c := range [][2]string{{"a/b", "a/c=2 d=3"}, {"d", "a/c=2"}, {"a/c", ""}} {
		does(t, "Remove", checkout.Remove(fs, c[0]))
		has(t, fs, c[1])
		refuses(t, fs, "Remove", removing(fs, c[0]), api.ErrMissing)
		fs.Crash(0, 0)
		has(t, fs, c[1])
		refuses(t, fs, "Remove", removing(fs, c[0]), api.ErrMissing)
	}
	write(t, fs, "d=4")
	has(t, fs, "d=4")
}

func TestRemoveNeedsNoRoom(t *testing.T) {
	fs := disk(t, 1000)
	write(t, fs, "a=1 b=2")
	leave(t, fs, 0)
	does(t, "Remove", checkout.Remove(fs, "a"))
	fs.Crash(0, 0)
	has(t, fs, "b=2")
}

// P19.3

func TestExampleOfMove(t *testing.T) {
	fs, b := disk(t, 1000), box{}
	write(t, fs, "old=1")
	does(t, "Move", checkout.Move(fs, b, scan(t, b, "a/b=xyz")))
	has(t, fs, "a/b=xyz")
}

// trees are working trees of which each can be turned into each.
var trees = []string{"", "a=x", "a=y", "a=x@0.5", "a/b=x", "a/b=x a/c=y d=z@-1", "a=z d/e=x", "a= b= c=", "b=yy c=" + strings.Repeat("long", 50), "a=x b=yy d/e=x"}

func TestMoveFromEachToEach(t *testing.T) {
	b := box{}
	for _, from := range trees {
		for _, to := range trees {
			fs := disk(t, 10000)
			lay(t, fs, "other", "alone")
			write(t, fs, from)
			root := scan(t, b, to)
			for range 2 {
				does(t, "Move", checkout.Move(fs, b, root))
				has(t, fs, to)
				if id, pending := checkout.Pending(fs); pending || id != zero {
					t.Fatalf("%x is pending", id)
				}
				fs.Crash(0, 0)
				has(t, fs, to)
			}
			write(t, fs, "new=file")
			does(t, "Move", checkout.Move(fs, b, scan(t, b, from)))
			has(t, fs, from)
			if text, e := fs.Read("other"); e != api.OK || string(text) != "alone" {
				t.Fatalf("other is %q %v", text, e)
			}
		}
	}
}

func TestMovesTakeNoRoomForGood(t *testing.T) {
	fs, b := disk(t, 2000), box{}
	for i := range 50 {
		to := trees[i%len(trees)]
		does(t, "Move", checkout.Move(fs, b, scan(t, b, to)))
		has(t, fs, to)
	}
	does(t, "Move", checkout.Move(fs, b, scan(t, b, "")))
	if fs.Used() != 0 || len(fs.List()) != 0 {
		t.Errorf("%s", all(fs))
	}
}

func TestMoveToWhatCantBeLoaded(t *testing.T) {
	fs, b := disk(t, 0), box{}
	fs.Stop(0)
	chunk, _ := object.PutChunk([]byte("abc"))
	id, _ := b.Put(chunk)
	gone, _ := object.PutTree([]object.Entry{{Name: "a", ID: api.ID{1}}})
	noFile, _ := b.Put(gone)
	noBlob, _ := object.PutTree([]object.Entry{{Name: strings.Repeat("n", 64), ID: id}})
	wrong, _ := b.Put(noBlob)
	for _, root := range []api.ID{zero, {1}, id, noFile, wrong} {
		_, want := snap.Load(b, root)
		if want == api.OK {
			t.Fatal("it can be loaded")
		}
		refuses(t, fs, "Move", moving(fs, b, root), want)
	}
}

func TestMoveToWrongPaths(t *testing.T) {
	b := box{}
	fs := disk(t, 1000)
	write(t, fs, "a=x")
	leave(t, fs, 0)
	fs.Stop(0)
	for _, files := range []string{tooDeep + "=1", "a=1 " + tooLong(251) + "=2", tooLong(255) + "=3"} {
		refuses(t, fs, "Move", moving(fs, b, scan(t, b, files)), api.ErrLong)
	}
	fs.Stop(-1)
	has(t, fs, "a=x")
	// A snapshot that can't be loaded, with a path that may not be: Load's error is told first.
	gone, _ := object.PutTree([]object.Entry{{Name: "d", ID: api.ID{1}}})
	id, _ := b.Put(gone)
	for range 15 {
		within, _ := object.PutTree([]object.Entry{{Name: "d", ID: id, Folder: true}})
		id, _ = b.Put(within)
	}
	refuses(t, fs, "Move", moving(fs, b, id), api.ErrMissing)
}

func TestMoveMayGoToWhatClashedWithTheOldOnes(t *testing.T) {
	fs, b := disk(t, 10000), box{}
	write(t, fs, "a=1 b/c=2")
	does(t, "Move", checkout.Move(fs, b, scan(t, b, "a/x=1 b=2")))
	has(t, fs, "a/x=1 b=2")
	does(t, "Move", checkout.Move(fs, b, scan(t, b, "a=3 b/c/d=4")))
	has(t, fs, "a=3 b/c/d=4")
}

func TestMoveNeedsRoom(t *testing.T) {
	b := box{}
	text := strings.Repeat("x", 60)
	for _, to := range []string{"new=" + text, "old=" + text, "a=" + text[:20] + " b=" + text[:20] + " c=" + text[:20], "old=1 b=" + text} {
		root := scan(t, b, to)
		enough := 0
		for left := 0; enough == 0; left++ {
			fs := disk(t, 2000)
			write(t, fs, "old=1")
			leave(t, fs, left)
			if checkout.Move(fs.Fork(), b, root) == api.OK {
				enough = left
				continue
			}
			refuses(t, fs, "Move", moving(fs, b, root), api.ErrFull)
			fs.Stop(0)
			refuses(t, fs, "Move", moving(fs, b, root), api.ErrFull)
			fs.Crash(0, 0)
			has(t, fs, "old=1")
		}
		if enough < len(text) || enough > 300 {
			t.Errorf("%d bytes are enough for %d", enough, len(text))
		}
	}
}

// manyFiles: as many files as a snapshot may have, with long paths and so many bytes in all.
func manyFiles(size int, mark string) []snap.File {
	var l []snap.File
	for i := range api.MaxFiles {
		f := snap.File{Path: strings.Repeat(strings.Repeat("n", 49)+"/", 4) + strings.Repeat("n", 40) + mark + strconv.Itoa(1000+i), Stamp: float64(i) / 3}
		if i == 0 {
			f.Data = make([]byte, size-api.MaxFiles+1)
		} else {
			f.Data = []byte{byte(i)}
		}
		l = append(l, f)
	}
	return l
}

func TestRoomForMovesOf3000BytesInAll(t *testing.T) {
	b := box{}
	fs := disk(t, api.MaxDisk)
	for _, f := range manyFiles(100000, "a") {
		does(t, "Write", checkout.Write(fs, f))
	}
	leave(t, fs, 60000)
	for _, mark := range []string{"a", "b"} {
		want := manyFiles(3000, mark)
		root, e := snap.Scan(b, want)
		does(t, "Scan", e)
		f := fs.Fork()
		does(t, "Move", checkout.Move(f, b, root))
		has(t, f, show(want))
	}
}

// P1

func TestCallsBehindACutEnd(t *testing.T) {
	b := box{}
	root := scan(t, b, "a/b=xyz c=q")
	for stop := range 30 {
		fs := disk(t, 10000)
		write(t, fs, "a=1 c=2")
		fs.Stop(stop)
		for i := range 3 {
			checkout.Move(fs, b, root)
			checkout.Files(fs)
			checkout.Pending(fs)
			checkout.Write(fs, snap.File{Path: "c"})
			checkout.Remove(fs, "a")
			checkout.Recover(fs, b)
			checkout.Recover(fs, box{})
			fs.Crash(i, i)
		}
	}
}

func TestCallsOfWhatNobodyLaidEnd(t *testing.T) {
	b := box{}
	root := scan(t, b, "a=xyz")
	for _, text := range []string{"", "x", "\x04", "\x0b", "\x0b\x02", "\x07\x04", strings.Repeat("0", 64), strings.Repeat("g", 64), "\x0b\x02" + strings.Repeat("\x00", 8) + "\x04"} {
		for _, name := range []string{"work/a", "work/a/b", "todo", "todo.new", "work", "works/a"} {
			fs := disk(t, 1000)
			lay(t, fs, name, text)
			if l, e := checkout.Files(fs); e != api.OK && l != nil {
				t.Errorf("Files beside %v: %v", e, l)
			}
			checkout.Pending(fs)
			checkout.Recover(fs, b)
			checkout.Write(fs, snap.File{Path: "a"})
			checkout.Move(fs, b, root)
			checkout.Remove(fs, "a")
		}
	}
}

// P2

// over: writes over bytes and their spare room.
func over(b []byte) {
	b = b[:cap(b)]
	for i := range b {
		b[i] ^= 0xff
	}
}

func TestNothingIsShared(t *testing.T) {
	fs := disk(t, 10000)
	data := []byte("xyz and room")[:3]
	does(t, "Write", checkout.Write(fs, snap.File{Path: "a", Data: data}))
	does(t, "Write", checkout.Write(fs, snap.File{Path: "b", Data: data}))
	if string(data[:12]) != "xyz and room" {
		t.Errorf("what is handed in became %q", data[:12])
	}
	over(data)
	has(t, fs, "a=xyz b=xyz")
	l, _ := checkout.Files(fs)
	over(l[0].Data)
	if string(l[1].Data) != "xyz" {
		t.Error("two files of one answer share memory")
	}
	clear(l[:cap(l)])
	has(t, fs, "a=xyz b=xyz")
	f := fs.Fork()
	write(t, f, "a=new")
	has(t, fs, "a=xyz b=xyz")
}
