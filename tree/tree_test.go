package tree_test

import (
	"bytes"
	"encoding/binary"
	"fmt"
	"math"
	"math/rand"
	"slices"
	"strconv"
	"strings"
	"testing"

	"towline/api"
	"towline/grain"
	"towline/object"
	"towline/path"
	"towline/tree"
)

var (
	minusZero = math.Copysign(0, -1)
	oddNaN    = math.Float64frombits(0xfff8000000000123)
)

// show: the beginning of what a value is, without the many noughts of ids.
func show(x any) string {
	s := strings.ReplaceAll(fmt.Sprintf("%v", x), " 0", "")
	return s[:min(len(s), 1000)]
}

// num: an id that begins with a number.
func num(n int) api.ID {
	var id api.ID
	binary.BigEndian.PutUint32(id[:], uint32(n))
	return id
}

// files: a file for each path, with ids that are unlike.
func files(paths ...string) []tree.File {
	var l []tree.File
	for i, p := range paths {
		l = append(l, tree.File{Path: p, ID: num(i + 1), Stamp: float64(i)})
	}
	return l
}

// numbered: so many paths that rise, with something ahead of each number.
func numbered(n int, ahead string) []string {
	var l []string
	for i := range n {
		l = append(l, ahead+strconv.Itoa(10000+i))
	}
	return l
}

// sameFile: by the order of times, in which what is no number is one thing and -0 is not 0.
func sameFile(f, g tree.File) bool {
	return f.Path == g.Path && f.ID == g.ID && sameStamp(f.Stamp, g.Stamp)
}

func sameStamp(a, b float64) bool {
	return a != a && b != b || math.Float64bits(a) == math.Float64bits(b)
}

func sameFiles(a, b []tree.File) bool { return slices.EqualFunc(a, b, sameFile) }

func sameRecords(a, b []tree.Record) bool {
	return slices.EqualFunc(a, b, func(r, s tree.Record) bool { return r.ID == s.ID && bytes.Equal(r.Data, s.Data) })
}

// anyFiles: some that Check takes, in few folders, of few blobs and times.
func anyFiles(r *rand.Rand, most int) []tree.File {
	var l []tree.File
	for range r.Intn(most + 1) {
		p := ""
		for range 1 + r.Intn(4) {
			p = path.Join(append(path.Split(p), []string{"a", "b", "a.b", "a!", "\xff"}[r.Intn(5)])...)
		}
		l = append(l, tree.File{Path: p, ID: num(r.Intn(3)), Stamp: []float64{0, minusZero, 1, math.NaN(), math.Inf(-1)}[r.Intn(5)]})
	}
	slices.SortStableFunc(l, func(f, g tree.File) int { return path.Compare(f.Path, g.Path) })
	var out []tree.File
	for _, f := range l {
		if len(out) == 0 || f.Path != out[len(out)-1].Path && !path.Under(f.Path, out[len(out)-1].Path) {
			out = append(out, f)
		}
	}
	return out
}

// P11.1

func TestConstants(t *testing.T) {
	if tree.Added != 1 || tree.Removed != 2 || tree.Changed != 3 || tree.Touched != 4 || tree.MaxEntries != 4096 {
		t.Error("constants")
	}
}

func TestCheck(t *testing.T) {
	long := strings.Repeat("a/", 15) + "a"
	for _, c := range []struct {
		paths []string
		want  api.Errno
	}{
		{nil, api.OK}, {[]string{"a"}, api.OK}, {[]string{"a/b", "a/c", "d"}, api.OK}, {[]string{"a", "a.b", "b"}, api.OK},
		{[]string{"a/b", "a.b"}, api.OK}, {[]string{"a", "aa", "aa.b"}, api.OK}, {[]string{"a/b", "a/b!", "a/bc"}, api.OK},
		{[]string{long}, api.OK}, {[]string{long + "/a"}, api.ErrLong}, {[]string{strings.Repeat("a", 64)}, api.OK},
		{[]string{""}, api.ErrPath}, {[]string{"a//b"}, api.ErrPath}, {[]string{"/a"}, api.ErrPath}, {[]string{"a/"}, api.ErrPath}, {[]string{"a/.."}, api.ErrPath},
		{[]string{"a\x00"}, api.ErrPath}, {[]string{strings.Repeat("a", 65)}, api.ErrPath}, {[]string{strings.Repeat("a", 256)}, api.ErrLong},
		{[]string{"a", "a"}, api.ErrOrder}, {[]string{"b", "a"}, api.ErrOrder}, {[]string{"a.b", "a/b"}, api.ErrOrder}, {[]string{"a/b", "a"}, api.ErrOrder},
		{[]string{"a", "c", "b"}, api.ErrOrder}, {[]string{"a", "b", "a"}, api.ErrOrder},
		{[]string{"a", "a/b"}, api.ErrClash}, {[]string{"a", "a/b/c"}, api.ErrClash}, {[]string{"a/b", "a/b/c"}, api.ErrClash}, {[]string{"a", "b", "b/a"}, api.ErrClash},
		// File by file, and of each its path first.
		{[]string{"b", "a", ""}, api.ErrOrder}, {[]string{"b", ""}, api.ErrPath}, {[]string{"a", "a/b", "a"}, api.ErrClash}, {[]string{"a", "a/"}, api.ErrPath},
		{[]string{"a", "a/b", ""}, api.ErrClash}, {[]string{"", "b", "a"}, api.ErrPath}, {[]string{"a", "a/.", "a"}, api.ErrPath},
	} {
		if e := tree.Check(files(c.paths...)); e != c.want {
			t.Errorf("Check of %q: %v, not %v", c.paths, e, c.want)
		}
	}
}

func TestCheckOfManyFiles(t *testing.T) {
	l := files(numbered(257, "f")...)
	if e := tree.Check(l[:256]); e != api.OK {
		t.Errorf("256 files: %v", e)
	}
	if e := tree.Check(l); e != api.ErrLong {
		t.Errorf("257 files: %v", e)
	}
	l[0].Path = ""
	if e := tree.Check(l); e != api.ErrLong {
		t.Errorf("257 files, one of them without a name: %v", e)
	}
	if e := tree.Check(l[:256]); e != api.ErrPath {
		t.Errorf("256 files, one of them without a name: %v", e)
	}
}

// checkOf: the same from the words.
func checkOf(paths []string) api.Errno {
	for i, p := range paths {
		if e := path.Check(p); e != api.OK {
			return e
		}
		for _, ahead := range paths[:i] {
			if path.Compare(ahead, p) >= 0 {
				return api.ErrOrder
			}
		}
		for _, ahead := range paths[:i] {
			if strings.HasPrefix(p, ahead+"/") {
				return api.ErrClash
			}
		}
	}
	return api.OK
}

func TestCheckOfAllShortLists(t *testing.T) {
	all := [][]string{nil}
	for range 3 {
		var next [][]string
		for _, l := range all {
			for _, p := range []string{"", "a", "a/b", "a/b/c", "a/c", "a.b", "a!/b", "b", "b/"} {
				next = append(next, append(slices.Clone(l), p))
			}
		}
		all = append(all, next...)
	}
	for _, l := range all {
		if e := tree.Check(files(l...)); e != checkOf(l) {
			t.Fatalf("Check of %q: %v, not %v", l, e, checkOf(l))
		}
	}
}

// P11.2

// build: the records of files that Check takes.
func build(t *testing.T, l []tree.File) ([]tree.Record, api.ID) {
	t.Helper()
	out, root, e := tree.Build(l)
	if e != api.OK || len(out) == 0 || out[len(out)-1].ID != root {
		t.Fatalf("Build of %s: %d records, %v", show(l), len(out), e)
	}
	return out, root
}

// record: the record of a tree's entries.
func record(t *testing.T, l ...object.Entry) tree.Record {
	t.Helper()
	b, e := object.PutTree(l)
	if e != api.OK {
		t.Fatalf("PutTree of %s: %v", show(l), e)
	}
	return tree.Record{ID: object.Name(b), Data: b}
}

func file(name string, f tree.File) object.Entry {
	return object.Entry{Name: name, ID: f.ID, Stamp: f.Stamp}
}

func folder(name string, r tree.Record) object.Entry {
	return object.Entry{Name: name, Folder: true, ID: r.ID}
}

func TestBuild(t *testing.T) {
	empty := record(t)
	if out, _ := build(t, nil); !sameRecords(out, []tree.Record{empty}) {
		t.Errorf("Build of nothing: %s", show(out))
	}
	l := files("a/b", "a/c", "d")
	a := record(t, file("b", l[0]), file("c", l[1]))
	if out, _ := build(t, l); !sameRecords(out, []tree.Record{a, record(t, folder("a", a), file("d", l[2]))}) {
		t.Errorf("Build of a/b, a/c, d: %s", show(out))
	}
	l = files("a/b/c", "a/b.c/d", "a.b", "b/c/d/e")
	c, d, e := record(t, file("c", l[0])), record(t, file("d", l[1])), record(t, file("e", l[3]))
	ofA, ofD := record(t, folder("b", c), folder("b.c", d)), record(t, folder("d", e))
	ofB := record(t, folder("c", ofD))
	want := []tree.Record{c, d, ofA, e, ofD, ofB, record(t, folder("a", ofA), file("a.b", l[2]), folder("b", ofB))}
	if out, _ := build(t, l); !sameRecords(out, want) {
		t.Errorf("Build of folders within folders: %s", show(out))
	}
}

func TestBuildHasEachRecordOnce(t *testing.T) {
	f := tree.File{ID: num(7), Stamp: math.NaN()}
	x := record(t, file("x", f))
	ofB := record(t, folder("b", x))
	for _, c := range []struct {
		paths []string
		want  []tree.Record
	}{
		{[]string{"a/x", "b/x"}, []tree.Record{x, record(t, folder("a", x), folder("b", x))}},
		{[]string{"a/b/x", "b/x"}, []tree.Record{x, ofB, record(t, folder("a", ofB), folder("b", x))}},
		{[]string{"a/b/x", "b/b/x", "c/x"}, []tree.Record{x, ofB, record(t, folder("a", ofB), folder("b", ofB), folder("c", x))}},
	} {
		l := files(c.paths...)
		for i := range l {
			l[i].ID, l[i].Stamp = f.ID, f.Stamp
		}
		if out, _ := build(t, l); !sameRecords(out, c.want) {
			t.Errorf("Build of %q: %s", c.paths, show(out))
		}
	}
	l := []tree.File{{Path: "a/x"}, {Path: "b/x", Stamp: minusZero}}
	if out, _ := build(t, l); len(out) != 3 {
		t.Errorf("folders of unlike times: %d records", len(out))
	}
}

func TestBuildRefuses(t *testing.T) {
	many := files(numbered(257, "f")...)
	for _, l := range [][]tree.File{many, files(""), files("a", "a"), files("a", "a/b"), files("b", "a"), files("a/" + strings.Repeat("b", 256)), files("a", "b", "b/a")} {
		out, root, e := tree.Build(l)
		if e == api.OK || e != tree.Check(l) || len(out) != 0 || root != (api.ID{}) {
			t.Errorf("Build of %s: %d, %x, %v", show(l), len(out), root, e)
		}
	}
}

func TestBuildOfMost(t *testing.T) {
	all := files(numbered(256, strings.Repeat("d/", 15))...)
	out, root := build(t, all)
	if len(out) != 16 {
		t.Errorf("%d records", len(out))
	}
	if l, e := tree.Read(rack(out), root); e != api.OK || !sameFiles(l, all) {
		t.Errorf("%d files, %v", len(l), e)
	}
	var apart []string
	for _, p := range numbered(256, "") {
		apart = append(apart, p+strings.Repeat("/d", 15))
	}
	if out, _ := build(t, files(apart...)); len(out) != 256*15+1 {
		t.Errorf("apart: %d records", len(out))
	}
}

// buildOf: the same from the words: names by name, and inner folders by all that begins with theirs.
func buildOf(t *testing.T, l []tree.File, out []tree.Record) ([]tree.Record, api.ID) {
	var entries []object.Entry
	for i, f := range l {
		names := path.Split(f.Path)
		if len(names) == 1 {
			entries = append(entries, file(f.Path, f))
			continue
		}
		if i > 0 && path.Split(l[i-1].Path)[0] == names[0] {
			continue
		}
		var within []tree.File
		for _, g := range l {
			if rest, ok := strings.CutPrefix(g.Path, names[0]+"/"); ok {
				within = append(within, tree.File{Path: rest, ID: g.ID, Stamp: g.Stamp})
			}
		}
		var id api.ID
		out, id = buildOf(t, within, out)
		entries = append(entries, object.Entry{Name: names[0], Folder: true, ID: id})
	}
	r := record(t, entries...)
	for _, known := range out {
		if known.ID == r.ID {
			return out, r.ID
		}
	}
	return append(out, r), r.ID
}

func TestBuildAndReadOfManyLists(t *testing.T) {
	r := rand.New(rand.NewSource(111))
	for range 3000 {
		l := anyFiles(r, 30)
		out, root := build(t, l)
		want, wantRoot := buildOf(t, l, nil)
		if !sameRecords(out, want) || root != wantRoot {
			t.Fatalf("Build of %s: %s", show(l), show(out))
		}
		if back, e := tree.Read(rack(out), root); e != api.OK || !sameFiles(back, l) {
			t.Fatalf("Read of %s: %s, %v", show(l), show(back), e)
		}
	}
}

// P11.3

// rack is records as a source.
type rack []tree.Record

func (s rack) Get(id api.ID) ([]byte, api.Errno) {
	for _, r := range s {
		if r.ID == id {
			return r.Data, api.OK
		}
	}
	return nil, api.ErrMissing
}

// asked is a source that tells for what it was asked, and what is wrong with a record.
type asked struct {
	rack
	ids   []api.ID
	wrong map[api.ID]api.Errno
}

func (s *asked) Get(id api.ID) ([]byte, api.Errno) {
	s.ids = append(s.ids, id)
	b, e := s.rack.Get(id)
	if s.wrong[id] != api.OK {
		return b, s.wrong[id]
	}
	return b, e
}

func refused(t *testing.T, what string, src tree.Source, root api.ID, want api.Errno) {
	t.Helper()
	if l, e := tree.Read(src, root); e != want || len(l) != 0 {
		t.Errorf("Read of %s: %d files, %v, not %v", what, len(l), e, want)
	}
}

func read(t *testing.T, what string, src tree.Source, root api.ID, want []tree.File) {
	t.Helper()
	if l, e := tree.Read(src, root); e != api.OK || !sameFiles(l, want) {
		t.Errorf("Read of %s: %s, %v", what, show(l), e)
	}
}

func TestReadGoesFromTheLeft(t *testing.T) {
	l := files("a/b/c", "a/b.c/d", "a.b", "b/c")
	out, root := build(t, l)
	s := &asked{rack: out}
	read(t, "folders", s, root, l)
	// Built: c, d, a, b, all.
	if want := []api.ID{out[4].ID, out[2].ID, out[0].ID, out[1].ID, out[3].ID}; !slices.Equal(s.ids, want) {
		t.Errorf("asked for %x, not %x", s.ids, want)
	}
	for i, lacking := range out {
		for _, e := range []api.Errno{api.ErrMissing, api.ErrDown, -7, 12345} {
			s := &asked{rack: out, wrong: map[api.ID]api.Errno{lacking.ID: e}}
			refused(t, "a source that is wrong", s, root, e)
		}
		for _, other := range out[i+1:] {
			s := &asked{rack: out, wrong: map[api.ID]api.Errno{lacking.ID: 901, other.ID: 902}}
			_, e := tree.Read(s, root)
			if s.ids[len(s.ids)-1] == lacking.ID && e != 901 || s.ids[len(s.ids)-1] == other.ID && e != 902 {
				t.Errorf("not the first error that is met: %v", e)
			}
		}
	}
	refused(t, "nothing", rack(nil), api.ID{}, api.ErrMissing)
}

func TestReadOfEmptyFolders(t *testing.T) {
	empty := record(t)
	read(t, "an empty tree", rack{empty}, empty.ID, nil)
	inner := record(t, folder("x", empty), folder("y", empty))
	f := tree.File{Path: "b/x.y", ID: num(1), Stamp: 2}
	b := record(t, folder("x", empty), file("x.y", f))
	root := record(t, folder("a", inner), folder("b", b), folder("c", empty))
	read(t, "empty folders", rack{empty, inner, b, root}, root.ID, []tree.File{f})
}

func TestReadOfOneTreeTwice(t *testing.T) {
	f := tree.File{ID: num(1), Stamp: minusZero}
	x := record(t, file("x", f))
	root := record(t, folder("a", x), folder("b", x))
	want := []tree.File{{Path: "a/x", ID: f.ID, Stamp: minusZero}, {Path: "b/x", ID: f.ID, Stamp: minusZero}}
	read(t, "one tree twice", rack{x, root}, root.ID, want)
}

func TestReadTellsGetTreesError(t *testing.T) {
	entry := grain.Row(grain.Text("a"), grain.Text(strings.Repeat("i", 32)), grain.Real(0))
	for _, c := range []struct {
		v    api.Value
		want api.Errno
	}{
		{grain.Row(grain.Num(1), grain.Text("")), api.ErrKind}, {grain.Row(grain.Num(3)), api.ErrForm}, {grain.Num(3), api.ErrForm},
		{grain.Row(grain.Num(3), grain.Row(entry, entry)), api.ErrOrder},
		{grain.Row(grain.Num(3), grain.Row(grain.Row(append([]api.Value{grain.Text(".")}, entry.List[1:]...)...))), api.ErrPath},
		{grain.Row(grain.Num(3), grain.Row(make([]api.Value, 1025)...)), api.ErrLong},
	} {
		b, _ := grain.Encode(c.v)
		wrong := tree.Record{ID: num(1), Data: b}
		refused(t, "a tree that is none", rack{wrong}, wrong.ID, c.want)
		root := record(t, folder("a", wrong), folder("b", tree.Record{ID: num(2)}))
		refused(t, "a folder that is none", rack{wrong, root}, root.ID, c.want)
		// The folder ahead of it is the first that is met.
		root = record(t, folder("a", tree.Record{ID: num(2)}), folder("b", wrong))
		refused(t, "a folder that is none behind one that is lacking", rack{wrong, root}, root.ID, api.ErrMissing)
	}
	refused(t, "no bytes", rack{{ID: num(1)}}, num(1), api.ErrShort)
}

// nested: a tree within folders of these names.
func nested(t *testing.T, inner tree.Record, names ...string) (rack, api.ID) {
	t.Helper()
	all := rack{inner}
	for _, name := range slices.Backward(names) {
		inner = record(t, folder(name, inner))
		all = append(all, inner)
	}
	return all, inner.ID
}

func TestReadOfLongPaths(t *testing.T) {
	f := tree.File{ID: num(1)}
	deep := slices.Repeat([]string{"a"}, 15)
	x := record(t, file("x", f))
	s, root := nested(t, x, deep...)
	read(t, "a path of 16 names", s, root, []tree.File{{Path: strings.Repeat("a/", 15) + "x", ID: f.ID}})
	s, root = nested(t, x, append(deep, "a")...)
	refused(t, "a path of 17 names", s, root, api.ErrLong)
	s, root = nested(t, record(t), append(deep, "a")...)
	read(t, "an empty folder within 16", s, root, nil)
	s, root = nested(t, record(t), append(deep, "a", "a")...)
	refused(t, "an empty folder within 17", s, root, api.ErrLong)
	s, root = nested(t, tree.Record{ID: num(9), Data: []byte("no record")}, append(deep, "a", "a")...)
	refused(t, "a folder of 17 names that is none", s, root, api.ErrLong)

	name := strings.Repeat("n", 64)
	for n := 59; n <= 64; n++ {
		for _, x := range []object.Entry{file(name[:n], f), folder(name[:n], record(t))} {
			s, root := nested(t, record(t, x), name, name, name)
			s = append(s, record(t))
			l, e := tree.Read(s, root)
			if n <= 60 && (e != api.OK || len(l) == 1 == x.Folder) || n > 60 && (e != api.ErrLong || len(l) > 0) {
				t.Errorf("a path of %d bytes: %s, %v", 3*65+n, show(l), e)
			}
		}
	}
}

func TestReadOfManyFiles(t *testing.T) {
	of := func(n int, ahead string) []object.Entry {
		var l []object.Entry
		for i, name := range numbered(n, ahead) {
			l = append(l, object.Entry{Name: name, ID: num(i)})
		}
		return l
	}
	gone := folder("z", tree.Record{ID: num(1)})
	all := record(t, of(256, "f")...)
	if l, e := tree.Read(rack{all}, all.ID); e != api.OK || len(l) != 256 {
		t.Errorf("256 files: %d, %v", len(l), e)
	}
	all = record(t, of(257, "f")...)
	refused(t, "257 files", rack{all}, all.ID, api.ErrLong)
	all = record(t, append(of(257, "f"), gone)...)
	refused(t, "257 files and a folder that is lacking", rack{all}, all.ID, api.ErrLong)
	all = record(t, append(of(256, "f"), gone)...)
	refused(t, "256 files and a folder that is lacking", rack{all}, all.ID, api.ErrMissing)
	all = record(t, append([]object.Entry{folder("a", tree.Record{ID: num(1)})}, of(257, "f")...)...)
	refused(t, "a folder that is lacking and 257 files", rack{all}, all.ID, api.ErrMissing)
	half := record(t, of(128, "f")...)
	two := record(t, folder("a", half), folder("b", half))
	if l, e := tree.Read(rack{half, two}, two.ID); e != api.OK || len(l) != 256 || tree.Check(l) != api.OK {
		t.Errorf("128 files twice: %d, %v", len(l), e)
	}
	more := record(t, folder("a", half), folder("b", half), file("c", tree.File{}), gone)
	refused(t, "128 files twice, and one", rack{half, more}, more.ID, api.ErrLong)
}

// spread: a tree of folders with empty folders, of so many entries in all, with some behind them.
func spread(t *testing.T, entries int, behind ...object.Entry) (rack, api.ID) {
	t.Helper()
	empty := record(t)
	s := rack{empty}
	var l []object.Entry
	for i := 0; entries > 0; i++ {
		n := min(1023, entries-1)
		var within []object.Entry
		for _, name := range numbered(n, "e") {
			within = append(within, folder(name, empty))
		}
		s = append(s, record(t, within...))
		l = append(l, folder(strconv.Itoa(10+i), s[len(s)-1]))
		entries -= n + 1
	}
	s = append(s, record(t, append(l, behind...)...))
	return s, s[len(s)-1].ID
}

func TestReadOfManyEntries(t *testing.T) {
	s, root := spread(t, 4096)
	read(t, "4096 entries", s, root, nil)
	s, root = spread(t, 4097)
	refused(t, "4097 entries", s, root, api.ErrLong)
	f := tree.File{Path: "f", ID: num(3), Stamp: 1}
	s, root = spread(t, 4095, file("f", f))
	read(t, "4095 entries, and a file", s, root, []tree.File{f})
	s, root = spread(t, 4096, file("f", f))
	refused(t, "4096 entries, and a file", s, root, api.ErrLong)
	gone := tree.Record{ID: num(1)}
	s, root = spread(t, 4095, folder("f", gone))
	refused(t, "4095 entries, and a folder that is lacking", s, root, api.ErrMissing)
	s, root = spread(t, 4096, folder("f", gone))
	refused(t, "4096 entries, and a folder that is lacking", s, root, api.ErrLong)
}

// Trees that tell of themselves end too.
func TestReadOfEndlessTrees(t *testing.T) {
	id := num(5)
	var l []object.Entry
	for _, name := range numbered(1024, "f") {
		l = append(l, object.Entry{Name: name, Folder: true, ID: id})
	}
	for _, n := range []int{1, 2, 1024} {
		b, _ := object.PutTree(l[:n])
		refused(t, "a tree within itself", rack{{ID: id, Data: b}}, id, api.ErrLong)
	}
	long, _ := object.PutTree([]object.Entry{{Name: strings.Repeat("n", 64), Folder: true, ID: id}})
	refused(t, "a tree of a long name within itself", rack{{ID: id, Data: long}}, id, api.ErrLong)
}

// P11.4

func sameChanges(a, b []tree.Change) bool {
	return slices.EqualFunc(a, b, func(c, d tree.Change) bool {
		return c.Kind == d.Kind && sameFile(c.Old, d.Old) && sameFile(c.New, d.New)
	})
}

func diff(t *testing.T, a, b []tree.File, want []tree.Change) {
	t.Helper()
	if got := tree.Diff(a, b); !sameChanges(got, want) {
		t.Errorf("Diff of %s and %s: %s, not %s", show(a), show(b), show(got), show(want))
	}
}

func TestDiff(t *testing.T) {
	none := tree.File{}
	p := tree.File{Path: "p", ID: num(1), Stamp: 1}
	q := tree.File{Path: "q", ID: num(1), Stamp: 1}
	other, touched, both := p, p, p
	other.ID, touched.Stamp, both.ID, both.Stamp = num(2), 2, num(2), 2
	diff(t, nil, nil, nil)
	diff(t, []tree.File{p, q}, []tree.File{p, q}, nil)
	diff(t, nil, []tree.File{p, q}, []tree.Change{{tree.Added, none, p}, {tree.Added, none, q}})
	diff(t, []tree.File{p, q}, nil, []tree.Change{{tree.Removed, p, none}, {tree.Removed, q, none}})
	diff(t, []tree.File{p}, []tree.File{q}, []tree.Change{{tree.Removed, p, none}, {tree.Added, none, q}})
	diff(t, []tree.File{q}, []tree.File{p}, []tree.Change{{tree.Added, none, p}, {tree.Removed, q, none}})
	diff(t, []tree.File{p, q}, []tree.File{other, q}, []tree.Change{{tree.Changed, p, other}})
	diff(t, []tree.File{p, q}, []tree.File{touched, q}, []tree.Change{{tree.Touched, p, touched}})
	diff(t, []tree.File{p}, []tree.File{both, q}, []tree.Change{{tree.Changed, p, both}, {tree.Added, none, q}})
	// A file where a folder was, and in the order of paths.
	diff(t, files("a/b", "a.b"), files("a", "a.b"), []tree.Change{{tree.Added, none, files("a")[0]}, {tree.Removed, files("a/b")[0], none}})
}

func TestDiffOfTimes(t *testing.T) {
	stamps := []float64{math.Inf(-1), -1, minusZero, 0, 1, math.Inf(1), math.NaN(), oddNaN}
	for i, x := range stamps {
		for j, y := range stamps {
			a, b := tree.File{Path: "p", Stamp: x}, tree.File{Path: "p", Stamp: y}
			var want []tree.Change
			if i != j && (i < 6 || j < 6) {
				want = []tree.Change{{tree.Touched, a, b}}
			}
			diff(t, []tree.File{a}, []tree.File{b}, want)
			b.ID = num(1)
			diff(t, []tree.File{a}, []tree.File{b}, []tree.Change{{tree.Changed, a, b}})
		}
	}
}

// diffOf: the same from the words, by all paths of both.
func diffOf(a, b []tree.File) []tree.Change {
	var paths []string
	of := [2]map[string]tree.File{{}, {}}
	for i, l := range [][]tree.File{a, b} {
		for _, f := range l {
			paths = append(paths, f.Path)
			of[i][f.Path] = f
		}
	}
	slices.SortFunc(paths, path.Compare)
	var out []tree.Change
	for _, p := range slices.Compact(paths) {
		f, inA := of[0][p]
		g, inB := of[1][p]
		c := tree.Change{Old: f, New: g}
		switch {
		case !inA:
			c.Kind = tree.Added
		case !inB:
			c.Kind = tree.Removed
		case f.ID != g.ID:
			c.Kind = tree.Changed
		case !sameStamp(f.Stamp, g.Stamp):
			c.Kind = tree.Touched
		default:
			continue
		}
		out = append(out, c)
	}
	return out
}

func TestDiffAndApplyOfManyLists(t *testing.T) {
	r := rand.New(rand.NewSource(114))
	for range 5000 {
		a, b := anyFiles(r, 20), anyFiles(r, 20)
		d := tree.Diff(a, b)
		if !sameChanges(d, diffOf(a, b)) {
			t.Fatalf("Diff of %s and %s: %s", show(a), show(b), show(d))
		}
		if l, e := tree.Apply(a, d...); e != api.OK || !sameFiles(l, b) {
			t.Fatalf("Apply of %s to %s: %s, %v", show(d), show(a), show(l), e)
		}
		r.Shuffle(len(d), func(i, j int) { d[i], d[j] = d[j], d[i] })
		if l, e := tree.Apply(a, d...); e != api.OK || !sameFiles(l, b) {
			t.Fatalf("Apply of %s, not in order, to %s: %s, %v", show(d), show(a), show(l), e)
		}
	}
}

// P1: lists that Check doesn't take.
func TestDiffOfAnyListsEnds(t *testing.T) {
	r := rand.New(rand.NewSource(115))
	paths := []string{"", "a", "a/b", "/", "a//", "b", strings.Repeat("/", 300), "\x00"}
	for range 2000 {
		var l [2][]tree.File
		for i := range l {
			for range r.Intn(10) {
				l[i] = append(l[i], tree.File{Path: paths[r.Intn(len(paths))], ID: num(r.Intn(2))})
			}
		}
		tree.Diff(l[0], l[1])
		tree.Apply(l[0], tree.Diff(l[0], l[1])...)
		tree.Build(l[0])
	}
	many := files(numbered(100000, "f")...)
	if d := tree.Diff(many, nil); len(d) != 100000 {
		t.Errorf("%d changes", len(d))
	}
}

// P11.5

func apply(t *testing.T, l []tree.File, changes []tree.Change, want []tree.File) {
	t.Helper()
	if got, e := tree.Apply(l, changes...); e != api.OK || !sameFiles(got, want) {
		t.Errorf("Apply of %s to %s: %s, %v, not %s", show(changes), show(l), show(got), e, show(want))
	}
}

func notApplied(t *testing.T, l []tree.File, changes ...tree.Change) {
	t.Helper()
	if got, e := tree.Apply(l, changes...); e != api.ErrMissing || len(got) != 0 {
		t.Errorf("Apply of %s to %s: %s, %v", show(changes), show(l), show(got), e)
	}
}

func TestApply(t *testing.T) {
	none := tree.File{}
	l := files("b", "d/e", "f")
	for _, p := range []string{"a", "b.c", "c", "d", "d!", "d/a", "d/e/f", "d/f", "e", "g", "", "//"} {
		f := tree.File{Path: p, ID: num(9), Stamp: 9}
		want := append(slices.Clone(l), f)
		slices.SortFunc(want, func(f, g tree.File) int { return path.Compare(f.Path, g.Path) })
		apply(t, l, []tree.Change{{tree.Added, none, f}}, want)
		apply(t, l, []tree.Change{{tree.Added, l[0], f}}, want)
		apply(t, want, []tree.Change{{tree.Removed, f, none}}, l)
		apply(t, want, []tree.Change{{tree.Removed, f, l[1]}}, l)
		apply(t, l, []tree.Change{{tree.Added, none, f}, {tree.Removed, f, none}}, l)
	}
	apply(t, l, nil, l)
	apply(t, nil, nil, nil)
	g := tree.File{Path: "d/e", ID: num(9), Stamp: minusZero}
	later := tree.File{Path: "d/e", ID: l[1].ID, Stamp: 77}
	want := []tree.File{l[0], g, l[2]}
	for _, kind := range []int{tree.Changed, tree.Touched} {
		apply(t, l, []tree.Change{{kind, l[1], g}}, want)
		// Of the old file neither its time is asked, nor whether the new one is of the kind.
		apply(t, l, []tree.Change{{kind, later, g}}, want)
		apply(t, l, []tree.Change{{kind, l[1], later}}, []tree.File{l[0], later, l[2]})
		apply(t, l, []tree.Change{{kind, l[1], g}, {kind, g, l[1]}}, l)
	}
	apply(t, l, []tree.Change{{tree.Removed, later, none}}, []tree.File{l[0], l[2]})
	apply(t, l, []tree.Change{{tree.Removed, l[1], none}, {tree.Added, none, g}, {tree.Changed, g, later}}, []tree.File{l[0], later, l[2]})
}

func TestApplyRefuses(t *testing.T) {
	none := tree.File{}
	l := files("b", "d/e", "f")
	f := tree.File{Path: "c", ID: num(9)}
	other := l[1]
	other.ID = num(9)
	for _, kind := range []int{0, 5, -1, math.MaxInt, math.MinInt} {
		notApplied(t, l, tree.Change{Kind: kind, Old: l[1], New: l[1]})
		notApplied(t, l, tree.Change{Kind: kind, New: f})
	}
	for _, g := range l {
		notApplied(t, l, tree.Change{Kind: tree.Added, New: g})
	}
	notApplied(t, l, tree.Change{Kind: tree.Added, New: other})
	for _, kind := range []int{tree.Removed, tree.Changed, tree.Touched} {
		notApplied(t, l, tree.Change{Kind: kind, Old: f, New: f})
		notApplied(t, l, tree.Change{Kind: kind, Old: none, New: l[1]})
		notApplied(t, l, tree.Change{Kind: kind, Old: other, New: l[1]})
		notApplied(t, nil, tree.Change{Kind: kind, Old: l[1], New: l[1]})
	}
	for _, kind := range []int{tree.Changed, tree.Touched} {
		notApplied(t, l, tree.Change{Kind: kind, Old: l[1], New: f})
		notApplied(t, l, tree.Change{Kind: kind, Old: l[1], New: l[2]})
		notApplied(t, l, tree.Change{Kind: kind, Old: l[1]})
	}
	// Change by change: what the ones ahead made counts.
	added := tree.Change{Kind: tree.Added, New: f}
	removed := tree.Change{Kind: tree.Removed, Old: f}
	notApplied(t, l, added, added)
	notApplied(t, l, removed, added)
	notApplied(t, l, added, removed, removed)
	notApplied(t, l, added, tree.Change{Kind: 9})
	notApplied(t, l, tree.Change{Kind: tree.Changed, Old: l[1], New: other}, tree.Change{Kind: tree.Removed, Old: l[1]})
}

// A path is there wherever it stands in the list.
func TestApplyToAListOutOfOrder(t *testing.T) {
	l := files("c", "b", "a")
	for i := range l {
		apply(t, l, []tree.Change{{tree.Removed, l[i], tree.File{}}}, slices.Delete(slices.Clone(l), i, i+1))
		notApplied(t, l, tree.Change{Kind: tree.Added, New: l[i]})
	}
}

// P2

// roomy: files with one more in their spare room.
func roomy(l []tree.File) []tree.File {
	return append(slices.Clone(l), tree.File{Path: "room", ID: num(99)})[:len(l)]
}

func TestListsAreLeftAsTheyAre(t *testing.T) {
	l, m := roomy(files("a/b", "a/c", "d")), roomy(files("a/b", "a/c/d", "b", "d"))
	d := tree.Diff(l, m)
	d = append(d, tree.Change{Kind: 9})[:len(d)]
	keepL, keepM, keepD := slices.Clone(l[:4]), slices.Clone(m[:5]), slices.Clone(d[:len(d)+1])
	tree.Check(l)
	tree.Build(l)
	got, e := tree.Apply(l, d...)
	if e != api.OK {
		t.Fatal(e)
	}
	tree.Apply(l, d[:len(d)+1]...)
	tree.Apply(l, tree.Change{Kind: tree.Removed, Old: l[0]})
	tree.Apply(l, tree.Change{Kind: tree.Added, New: tree.File{Path: "x"}})
	tree.Apply(l, tree.Change{Kind: tree.Touched, Old: l[0], New: tree.File{Path: "a/b"}})
	same, _ := tree.Apply(l)
	again, _ := tree.Apply(l)
	for _, x := range [][]tree.File{got, same} {
		x = x[:cap(x)]
		for i := range x {
			x[i].Path = "spoiled"
		}
	}
	if !sameFiles(l[:4], keepL) || !sameFiles(m[:5], keepM) || !sameChanges(d[:len(d)+1], keepD) || !sameFiles(again, l) {
		t.Error("a list was changed, or an answer shares memory with it")
	}
}

func TestRecordsAreNewMemory(t *testing.T) {
	l := files("a/b", "a/c", "d/e", "f")
	out, root := build(t, l)
	other, _ := build(t, l)
	keep := rack{}
	for _, r := range out {
		keep = append(keep, tree.Record{ID: r.ID, Data: slices.Clone(r.Data)})
	}
	files, e := tree.Read(rack(out), root)
	if e != api.OK || !sameRecords(out, keep) {
		t.Fatal("Read changed a record")
	}
	for i, r := range other {
		clear(r.Data[:cap(r.Data)])
		if !sameRecords(out, keep) || i+1 < len(other) && !sameRecords(other[i+1:], keep[i+1:]) {
			t.Fatal("records share memory")
		}
	}
	again, _ := tree.Read(rack(out), root)
	for _, r := range out {
		clear(r.Data)
	}
	clear(again[:cap(again)])
	if !sameFiles(files, l) {
		t.Error("files share memory with records, or with other files")
	}
}
