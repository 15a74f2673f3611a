package snap_test

import (
	"bytes"
	"crypto/sha256"
	"math"
	"math/rand"
	"slices"
	"strconv"
	"strings"
	"testing"

	"towline/api"
	"towline/gear"
	"towline/grain"
	"towline/object"
	"towline/path"
	"towline/snap"
	"towline/store"
	"towline/tree"
	"towline/vfs"
)

var (
	zero      api.ID
	minusZero = math.Copysign(0, -1)
	oddNaN    = math.Float64frombits(0xfff8000000000123)
)

// box is a shelf that tells what was put on it, and what was asked of it, and refuses what it is told to.
type box struct {
	records map[api.ID][]byte
	puts    []string
	gets    []api.ID
	most    int // puts that it takes; below 0 all
	refuse  api.Errno
	broken  map[api.ID]api.Errno
}

func empty() *box {
	return &box{records: map[api.ID][]byte{}, most: -1, broken: map[api.ID]api.Errno{}}
}

// full: an empty box that takes so many records, and then has that error.
func full(most int, refuse api.Errno) *box {
	b := empty()
	b.most, b.refuse = most, refuse
	return b
}

func (b *box) Put(data []byte) (api.ID, api.Errno) {
	if b.most >= 0 && len(b.puts) == b.most {
		return api.ID{9}, b.refuse // what stands beside an error is nobody's
	}
	id := sum(data)
	b.puts = append(b.puts, string(data))
	b.records[id] = bytes.Clone(data)
	return id, api.OK
}

func (b *box) Get(id api.ID) ([]byte, api.Errno) {
	b.gets = append(b.gets, id)
	if e := b.broken[id]; e != api.OK {
		return []byte("nobody's"), e
	}
	data, there := b.records[id]
	if !there {
		return nil, api.ErrMissing
	}
	return data, api.OK // its own memory: who changes it, or keeps it, is found out
}

// add: some record is there, whoever it is from.
func (b *box) add(data []byte, e api.Errno) api.ID {
	if e != api.OK {
		panic(e)
	}
	b.records[sum(data)] = bytes.Clone(data)
	return sum(data)
}

// whole: all its records are as they were put.
func (b *box) whole(t *testing.T) {
	t.Helper()
	for id, data := range b.records {
		if sum(data) != id {
			t.Errorf("a record has become %.100q", data)
		}
	}
}

func sum(data []byte) api.ID { return api.ID(sha256.Sum256(data)) }

// noise: bytes that are cut at many lengths.
func noise(seed int64, n int) []byte {
	data := make([]byte, n)
	rand.New(rand.NewSource(seed)).Read(data)
	return data
}

// chunks: those of some bytes, by the words of layers 4 and 18.
func chunks(t *testing.T, data []byte) [][]byte {
	t.Helper()
	out, e := gear.Split(data, gear.Params{Min: 64, Max: 4096, Bits: 8})
	if e != api.OK {
		t.Fatalf("Split: %v", e)
	}
	return out
}

// recordsOf: those of a file's bytes, the blob's last.
func recordsOf(t *testing.T, data []byte) []string {
	t.Helper()
	var out []string
	x := object.Blob{Size: len(data)}
	for _, c := range chunks(t, data) {
		record, e := object.PutChunk(c)
		if e != api.OK {
			t.Fatalf("PutChunk: %v", e)
		}
		out = append(out, string(record))
		x.Chunks = append(x.Chunks, sum(record))
	}
	record, e := object.PutBlob(x)
	if e != api.OK {
		t.Fatalf("PutBlob: %v", e)
	}
	return append(out, string(record))
}

// block: 64 bytes at the end of which a chunk ends.
func block() []byte {
	for seed := int64(0); ; seed++ {
		b := noise(seed, 64)
		if l, _ := gear.Cut(slices.Concat(b, b), gear.Params{Min: 64, Max: 4096, Bits: 8}); len(l) == 2 && l[0] == 64 {
			return b
		}
	}
}

// contents: bytes of files, the edges among them.
func contents() map[string][]byte {
	return map[string][]byte{
		"none": nil, "empty": {}, "a": []byte("a"), "xyz": []byte("xyz"), "63": noise(1, 63), "64": noise(2, 64), "65": noise(3, 65),
		"4096 alike": make([]byte, 4096), "4097 alike": make([]byte, 4097), "noise": noise(4, 20000), "most": noise(5, api.MaxBlob),
		"most alike": make([]byte, api.MaxBlob), "most chunks": bytes.Repeat(block(), object.MaxChunks),
	}
}

// P18.1

func TestBlobPutsChunksAndThenTheBlob(t *testing.T) {
	for name, data := range contents() {
		b := empty()
		id, e := snap.Blob(b, data)
		want := recordsOf(t, data)
		if e != api.OK || id != sum([]byte(want[len(want)-1])) {
			t.Fatalf("%s: Blob %x %v", name, id, e)
		}
		if !slices.Equal(b.puts, want) {
			t.Errorf("%s: %d records were put, not %d, or others", name, len(b.puts), len(want))
		}
	}
	if n := len(chunks(t, contents()["most chunks"])); n != object.MaxChunks {
		t.Errorf("%d chunks at most", n)
	}
	if n := len(chunks(t, contents()["noise"])); n < 20 {
		t.Errorf("just %d chunks of noise", n)
	}
}

func TestBlobOfTooManyBytes(t *testing.T) {
	for _, b := range []*box{empty(), full(0, api.ErrFull)} {
		for _, n := range []int{api.MaxBlob + 1, 2 * api.MaxBlob} {
			if id, e := snap.Blob(b, make([]byte, n)); e != api.ErrLong || id != zero || len(b.puts) > 0 {
				t.Errorf("Blob of %d bytes: %x %v, %d records", n, id, e, len(b.puts))
			}
		}
	}
}

func TestBlobHasTheFirstErrorOfTheShelf(t *testing.T) {
	for _, data := range [][]byte{nil, []byte("xyz"), noise(6, 3000)} {
		want := recordsOf(t, data)
		for n := range want {
			for _, refuse := range []api.Errno{api.ErrFull, api.ErrCut, api.ErrSum} {
				b := full(n, refuse)
				if id, e := snap.Blob(b, data); e != refuse || id != zero || !slices.Equal(b.puts, want[:n]) {
					t.Errorf("Blob where %d records of %d are taken: %x %v", n, len(want), id, e)
				}
			}
		}
		if _, e := snap.Blob(full(len(want), api.ErrFull), data); e != api.OK {
			t.Errorf("Blob where just all are taken: %v", e)
		}
	}
}

// P18.2

func TestDataIsWhatWasPut(t *testing.T) {
	b := empty()
	ids := map[string]api.ID{}
	for name, data := range contents() {
		ids[name], _ = snap.Blob(b, data)
	}
	for name, data := range contents() {
		if got, e := snap.Data(b, ids[name]); e != api.OK || !bytes.Equal(got, data) {
			t.Errorf("%s: Data of %d bytes has %d: %v", name, len(data), len(got), e)
		}
	}
	b.whole(t)
}

// dataIs: Data has just these bytes, or that error and none.
func dataIs(t *testing.T, what string, b *box, id api.ID, want string, wrong api.Errno) {
	t.Helper()
	got, e := snap.Data(b, id)
	if e != wrong || string(got) != want || e != api.OK && got != nil {
		t.Errorf("%s: Data %.50q %v, not %.50q %v", what, got, e, want, wrong)
	}
}

func TestDataOfWhatIsNoBlob(t *testing.T) {
	b := empty()
	dataIs(t, "missing", b, api.ID{1}, "", api.ErrMissing)
	dataIs(t, "a chunk", b, b.add(object.PutChunk([]byte("abc"))), "", api.ErrForm) // of another number of values
	dataIs(t, "of another kind", b, b.add(grain.Encode(grain.Row(grain.Num(object.KTree), grain.Row(), grain.Num(0)))), "", api.ErrKind)
	dataIs(t, "no record", b, b.add(nil, api.OK), "", api.ErrShort)
	dataIs(t, "a number", b, b.add([]byte{4}, api.OK), "", api.ErrForm)
	dataIs(t, "with a rest", b, b.add([]byte{4, 4}, api.OK), "", api.ErrRest)
	long := grain.Num(api.MaxBlob + 1)
	dataIs(t, "too long", b, b.add(grain.Encode(grain.Row(grain.Num(object.KBlob), grain.Row(), long))), "", api.ErrLong)
	broken, _ := snap.Blob(b, []byte("xyz"))
	b.broken[broken] = api.ErrSum
	dataIs(t, "broken", b, broken, "", api.ErrSum)
}

func TestDataChunkByChunk(t *testing.T) {
	b := empty()
	one, two, none := b.add(object.PutChunk([]byte("one"))), b.add(object.PutChunk([]byte("two"))), b.add(object.PutChunk(nil))
	blob, gone, broken := b.add(object.PutBlob(object.Blob{})), api.ID{1}, api.ID{2}
	b.broken[broken] = api.ErrSum
	for _, c := range []struct {
		what   string
		size   int
		chunks []api.ID
		want   string
		wrong  api.Errno
	}{
		{"nothing", 0, nil, "", api.OK},
		{"two", 6, []api.ID{one, two}, "onetwo", api.OK},
		{"one twice", 6, []api.ID{one, one}, "oneone", api.OK},
		{"with empty ones", 6, []api.ID{none, one, none, two, none}, "onetwo", api.OK},
		{"empty ones alone", 0, []api.ID{none, none}, "", api.OK},
		{"too few", 7, []api.ID{one, two}, "", api.ErrForm},
		{"none, but a size", 1, nil, "", api.ErrForm},
		{"too many", 5, []api.ID{one, two}, "", api.ErrForm},
		{"too many for nothing", 0, []api.ID{one}, "", api.ErrForm},
		{"a missing one", 6, []api.ID{one, gone}, "", api.ErrMissing},
		{"a missing one with too few", 9, []api.ID{gone, one}, "", api.ErrMissing},
		{"a broken one ahead of a missing one", 6, []api.ID{one, broken, gone}, "", api.ErrSum},
		{"a missing one ahead of a broken one", 6, []api.ID{one, gone, broken}, "", api.ErrMissing},
		{"one that is none", 6, []api.ID{one, blob}, "", api.ErrForm},
		{"one that is none ahead of a missing one", 6, []api.ID{blob, gone}, "", api.ErrForm},
		{"too many ahead of a missing one", 5, []api.ID{one, two, gone}, "", api.ErrForm},
		{"too many ahead of a broken one", 2, []api.ID{one, broken}, "", api.ErrForm},
		{"a missing one behind just enough", 6, []api.ID{one, two, gone}, "", api.ErrMissing},
		{"a missing one ahead of too many", 5, []api.ID{one, gone, two}, "", api.ErrMissing},
	} {
		dataIs(t, c.what, b, b.add(object.PutBlob(object.Blob{Chunks: c.chunks, Size: c.size})), c.want, c.wrong)
	}
}

func TestDataEndsWhereThereIsTooMuch(t *testing.T) {
	b := empty()
	most := b.add(object.PutChunk(make([]byte, api.MaxBlob)))
	id := b.add(object.PutBlob(object.Blob{Chunks: slices.Repeat([]api.ID{most}, object.MaxChunks), Size: api.MaxBlob}))
	dataIs(t, "the most bytes thousands of times", b, id, "", api.ErrForm)
	if len(b.gets) != 3 {
		t.Errorf("%d records were asked for", len(b.gets))
	}
}

// P18.3

// aFile: one with a path and bytes.
func aFile(p, data string, stamp float64) snap.File {
	return snap.File{Path: p, Data: []byte(data), Stamp: stamp}
}

// listed: the files of a tree of which the blobs were put.
func listed(t *testing.T, files []snap.File) []tree.File {
	t.Helper()
	var l []tree.File
	for _, f := range files {
		records := recordsOf(t, f.Data)
		l = append(l, tree.File{Path: f.Path, ID: sum([]byte(records[len(records)-1])), Stamp: f.Stamp})
	}
	return l
}

// scanned: all records that Scan is to put, and the root.
func scanned(t *testing.T, files []snap.File) ([]string, api.ID) {
	t.Helper()
	var all []string
	for _, f := range files {
		all = append(all, recordsOf(t, f.Data)...)
	}
	records, root, e := tree.Build(listed(t, files))
	if e != api.OK {
		t.Fatalf("Build: %v", e)
	}
	for _, r := range records {
		all = append(all, string(r.Data))
	}
	return all, root
}

// sameFiles: by the order of times, in which what is no number is one thing and -0 is not 0.
func sameFiles(a, b []snap.File) bool {
	return slices.EqualFunc(a, b, func(f, g snap.File) bool {
		sameStamp := f.Stamp != f.Stamp && g.Stamp != g.Stamp || math.Float64bits(f.Stamp) == math.Float64bits(g.Stamp)
		return f.Path == g.Path && bytes.Equal(f.Data, g.Data) && sameStamp
	})
}

// some files, with folders within one another, the same bytes twice, and times at the edges.
func someFiles() []snap.File {
	return []snap.File{
		aFile("a/b/c", "xyz", 0.5), aFile("a/d", "", minusZero), aFile("a.b", "xyz", math.Inf(-1)), {Path: "e", Data: noise(7, 3000), Stamp: oddNaN}, aFile("\xff", "q", 1),
	}
}

func TestExampleOfScan(t *testing.T) {
	b := empty()
	root, e := snap.Scan(b, []snap.File{aFile("a/b", "xyz", 2)})
	if e != api.OK || len(b.puts) != 4 || root != sum([]byte(b.puts[3])) {
		t.Fatalf("Scan: %v, %d records", e, len(b.puts))
	}
	for i, want := range []int{object.KChunk, object.KBlob, object.KTree, object.KTree} {
		if kind, e := object.Kind([]byte(b.puts[i])); e != api.OK || kind != want {
			t.Errorf("record %d is of kind %d", i, kind)
		}
	}
	l, e := object.GetTree([]byte(b.puts[2]))
	if e != api.OK || len(l) != 1 || l[0].Name != "b" || l[0].ID != sum([]byte(b.puts[1])) || l[0].Stamp != 2 {
		t.Errorf("the tree of a: %v %v", l, e)
	}
}

func TestScanPutsFileByFileAndThenTheTrees(t *testing.T) {
	for _, files := range [][]snap.File{nil, {}, {aFile("a", "", 0)}, someFiles()} {
		b := empty()
		root, e := snap.Scan(b, files)
		all, want := scanned(t, files)
		if e != api.OK || root != want || !slices.Equal(b.puts, all) {
			t.Errorf("Scan of %d files: %v, %d records, not %d, or others", len(files), e, len(b.puts), len(all))
		}
	}
}

func TestScanOfWrongFiles(t *testing.T) {
	many := make([]snap.File, 257)
	for i := range many {
		many[i].Path = strconv.Itoa(1000 + i)
	}
	long := snap.File{Path: "a", Data: make([]byte, api.MaxBlob+1)}
	for _, c := range []struct {
		files []snap.File
		want  api.Errno
	}{
		{[]snap.File{aFile("b", "", 0), aFile("a", "", 0)}, api.ErrOrder},
		{[]snap.File{aFile("a", "", 0), aFile("a", "", 0)}, api.ErrOrder},
		{[]snap.File{aFile("a", "", 0), aFile("a/b", "", 0)}, api.ErrClash},
		{[]snap.File{aFile("", "", 0)}, api.ErrPath}, {[]snap.File{aFile("a//b", "", 0)}, api.ErrPath},
		{[]snap.File{aFile(strings.Repeat("a/", 16)+"a", "", 0)}, api.ErrLong},
		{many, api.ErrLong},
		{[]snap.File{long, aFile("", "", 0)}, api.ErrPath},
		{[]snap.File{long, aFile("a", "", 0)}, api.ErrOrder},
		{[]snap.File{long}, api.ErrLong},
	} {
		for _, b := range []*box{empty(), full(0, api.ErrFull)} {
			if root, e := snap.Scan(b, c.files); e != c.want || root != zero || len(b.puts) > 0 {
				t.Errorf("Scan of %d files: %x %v, not %v; %d records", len(c.files), root, e, c.want, len(b.puts))
			}
		}
	}
	b := empty()
	if _, e := snap.Scan(b, many[:256]); e != api.OK {
		t.Errorf("Scan of 256 files: %v", e)
	}
}

func TestScanGoesFileByFile(t *testing.T) {
	files := []snap.File{aFile("a", "x", 0), {Path: "b", Data: make([]byte, api.MaxBlob+1)}}
	if _, e := snap.Scan(empty(), files); e != api.ErrLong {
		t.Errorf("Scan: %v", e)
	}
	if _, e := snap.Scan(full(1, api.ErrFull), files); e != api.ErrFull {
		t.Errorf("Scan, and there is no room for the first file: %v", e)
	}
	if _, e := snap.Scan(full(2, api.ErrFull), files); e != api.ErrLong {
		t.Errorf("Scan, and there is room for the first file: %v", e)
	}
}

func TestScanHasTheFirstErrorOfTheShelf(t *testing.T) {
	all, _ := scanned(t, someFiles())
	for n := range all {
		b := full(n, api.ErrCut)
		if root, e := snap.Scan(b, someFiles()); e != api.ErrCut || root != zero || !slices.Equal(b.puts, all[:n]) {
			t.Errorf("Scan where %d records of %d are taken: %x %v", n, len(all), root, e)
		}
	}
}

func TestTreesNeedsNoBlobs(t *testing.T) {
	for _, l := range [][]tree.File{nil, {{Path: "a", ID: api.ID{1}}}, listed(t, someFiles())} {
		records, want, _ := tree.Build(l)
		b := empty()
		root, e := snap.Trees(b, l)
		if e != api.OK || root != want || len(b.puts) != len(records) {
			t.Fatalf("Trees of %d files: %x %v", len(l), root, e)
		}
		for i, r := range records {
			if b.puts[i] != string(r.Data) {
				t.Errorf("record %d isn't that of Build", i)
			}
		}
		for n := range records {
			b := full(n, api.ErrFull)
			if root, e := snap.Trees(b, l); e != api.ErrFull || root != zero || len(b.puts) != n {
				t.Errorf("Trees where %d records of %d are taken: %x %v", n, len(records), root, e)
			}
		}
	}
}

func TestTreesOfWrongFiles(t *testing.T) {
	for want, l := range map[api.Errno][]tree.File{
		api.ErrPath: {{Path: "a/"}}, api.ErrOrder: {{Path: "b"}, {Path: "a"}}, api.ErrClash: {{Path: "a"}, {Path: "a/b"}}, api.ErrLong: make([]tree.File, 257),
	} {
		b := full(0, api.ErrFull)
		if root, e := snap.Trees(b, l); e != want || root != zero {
			t.Errorf("Trees: %x %v, not %v", root, e, want)
		}
	}
}

func TestLoadIsWhatWasScanned(t *testing.T) {
	for _, files := range [][]snap.File{nil, {aFile("a", "", 0)}, someFiles()} {
		b := empty()
		root, _ := snap.Scan(b, files)
		got, e := snap.Load(b, root)
		if e != api.OK || !sameFiles(got, files) {
			t.Errorf("Load: %v %v", got, e)
		}
		for _, f := range got {
			if f.Stamp != f.Stamp && math.Float64bits(f.Stamp) != 0x7ff8000000000000 {
				t.Error("a time that is no number isn't in its one form")
			}
		}
		b.whole(t)
	}
}

func TestLoadOfWrongTrees(t *testing.T) {
	b := empty()
	x, _ := snap.Blob(b, []byte("x"))
	noBlob := b.add(object.PutChunk([]byte("abc")))
	short := b.add(object.PutBlob(object.Blob{Size: 1}))
	entry := func(name string, id api.ID) object.Entry { return object.Entry{Name: name, ID: id} }
	folder := func(name string, id api.ID) object.Entry { return object.Entry{Name: name, ID: id, Folder: true} }
	put := func(l ...object.Entry) api.ID { return b.add(object.PutTree(l)) }
	broken := put(entry("b", x))
	b.broken[broken] = api.ErrSum
	deep := put(entry("f", x))
	for range 16 {
		deep = put(folder("d", deep))
	}
	for what, c := range map[string]struct {
		root api.ID
		want api.Errno
	}{
		"missing":                        {api.ID{1}, api.ErrMissing},
		"a blob":                         {x, api.ErrForm},
		"a folder that isn't there":      {put(folder("a", api.ID{1})), api.ErrMissing},
		"a broken folder":                {put(entry("a", api.ID{1}), folder("b", broken)), api.ErrSum},
		"too deep":                       {deep, api.ErrLong},
		"a file that isn't there":        {put(entry("a", x), entry("b", api.ID{1})), api.ErrMissing},
		"a file that is no blob":         {put(entry("a", noBlob), entry("b", api.ID{1})), api.ErrForm},
		"a file of too few bytes":        {put(entry("a", short)), api.ErrForm},
		"a missing file ahead of others": {put(entry("a", api.ID{1}), entry("b", short)), api.ErrMissing},
		"a wrong file ahead of others":   {put(entry("a", short), entry("b", api.ID{1})), api.ErrForm},
		"the tree's error first":         {put(entry("a", short), folder("b", broken)), api.ErrSum},
	} {
		if l, e := snap.Load(b, c.root); e != c.want || l != nil {
			t.Errorf("%s: Load %v %v, not %v", what, l, e, c.want)
		}
	}
}

func TestAStoreIsAShelf(t *testing.T) {
	fs, _ := vfs.New(1 << 20)
	s, e := store.Open(fs)
	if e != api.OK {
		t.Fatalf("Open: %v", e)
	}
	root, e := snap.Scan(s, someFiles())
	if e != api.OK || s.Sync() != api.OK {
		t.Fatalf("Scan: %v", e)
	}
	fs.Crash(0, 0)
	s, _ = store.Open(fs)
	if got, e := snap.Load(s, root); e != api.OK || !sameFiles(got, someFiles()) {
		t.Errorf("Load: %v", e)
	}
	fs, _ = vfs.New(100)
	s, _ = store.Open(fs)
	if _, e := snap.Scan(s, someFiles()); e != api.ErrFull {
		t.Errorf("Scan without room: %v", e)
	}
	fs, _ = vfs.New(1000)
	s, _ = store.Open(fs)
	fs.Stop(1)
	if _, e := snap.Blob(s, []byte("xyz")); e != api.ErrCut {
		t.Errorf("Blob without power: %v", e)
	}
}

// P18.4

func TestCommitSortsParents(t *testing.T) {
	for _, parents := range [][]api.ID{
		nil, {{1}}, {{2}, {1}, {2}}, {{1}, {1}, {1}}, {{31: 1}, {}, {1}, {0, 1}}, {{8}, {7}, {6}, {5}, {4}, {3}, {2}, {1}},
		{{8}, {7}, {6}, {5}, {4}, {3}, {2}, {1}, {1}, {2}, {3}, {8}}, slices.Repeat([]api.ID{{3}, {2}}, 100),
	} {
		x := object.Commit{Tree: api.ID{4}, Parents: parents, Stamp: 0.5, Author: "me", Note: "why"}
		b := empty()
		id, e := snap.Commit(b, x)
		var rising []api.ID
		for _, p := range parents {
			if !slices.Contains(rising, p) {
				rising = append(rising, p)
			}
		}
		slices.SortFunc(rising, func(p, q api.ID) int { return strings.Compare(string(p[:]), string(q[:])) })
		x.Parents = rising
		record, wrong := object.PutCommit(x)
		if wrong != api.OK || e != api.OK || id != sum(record) || !slices.Equal(b.puts, []string{string(record)}) {
			t.Fatalf("Commit with %d parents: %x %v", len(parents), id, e)
		}
		got, e := snap.Read(b, id)
		if e != api.OK || !slices.Equal(got.Parents, rising) || got.Tree != x.Tree || got.Stamp != 0.5 || got.Author != "me" || got.Note != "why" {
			t.Errorf("Read: %v %v", got, e)
		}
	}
}

func TestCommitRefuses(t *testing.T) {
	nine := []api.ID{{9}, {8}, {7}, {6}, {5}, {4}, {3}, {2}, {1}}
	for _, x := range []object.Commit{{Parents: nine}, {Author: strings.Repeat("a", 65)}, {Note: strings.Repeat("n", 1025)}} {
		for _, b := range []*box{empty(), full(0, api.ErrFull)} {
			if id, e := snap.Commit(b, x); e != api.ErrLong || id != zero || len(b.puts) > 0 {
				t.Errorf("Commit: %x %v", id, e)
			}
		}
	}
	if id, e := snap.Commit(full(0, api.ErrFull), object.Commit{}); e != api.ErrFull || id != zero {
		t.Errorf("Commit without room: %x %v", id, e)
	}
}

func TestReadOfWhatIsNoSnapshot(t *testing.T) {
	b := empty()
	blob, _ := snap.Blob(b, nil)
	broken, _ := snap.Commit(b, object.Commit{})
	b.broken[broken] = api.ErrSum
	for want, id := range map[api.Errno]api.ID{
		api.ErrMissing: {1}, api.ErrForm: blob, api.ErrSum: broken, api.ErrShort: b.add(nil, api.OK),
		api.ErrKind: b.add(grain.Encode(grain.Row(grain.Num(2), grain.Num(0), grain.Num(0), grain.Num(0), grain.Num(0), grain.Num(0)))),
	} {
		x, e := snap.Read(b, id)
		if e != want || x.Tree != zero || x.Parents != nil || x.Stamp != 0 || x.Author != "" || x.Note != "" {
			t.Errorf("Read: %v %v, not %v", x, e, want)
		}
	}
}

// P18.5

func TestSorted(t *testing.T) {
	for _, c := range []struct{ files, want []snap.File }{
		{nil, nil},
		{[]snap.File{aFile("a", "x", 1)}, []snap.File{aFile("a", "x", 1)}},
		{[]snap.File{aFile("a.b", "1", 0), aFile("a/b", "2", 0), aFile("a", "3", 0)}, []snap.File{aFile("a", "3", 0), aFile("a/b", "2", 0), aFile("a.b", "1", 0)}},
		{[]snap.File{aFile("b", "1", 0), aFile("a", "2", 0), aFile("b", "3", 7), aFile("a", "4", 8), aFile("b", "5", 9)}, []snap.File{aFile("a", "4", 8), aFile("b", "5", 9)}},
		{[]snap.File{aFile("/", "1", 0), aFile("", "2", 0), aFile("//", "3", 0), aFile("", "4", 0)}, []snap.File{aFile("", "4", 0), aFile("/", "1", 0), aFile("//", "3", 0)}},
	} {
		if got := snap.Sorted(c.files); !sameFiles(got, c.want) {
			t.Errorf("Sorted: %v, not %v", got, c.want)
		}
	}
}

func TestSortedOfManyFiles(t *testing.T) {
	r := rand.New(rand.NewSource(31))
	for range 300 {
		var files []snap.File
		last := map[string]snap.File{}
		for i := range r.Intn(60) {
			f := aFile(path.Join([]string{"a", "b", "a.b"}[r.Intn(3)], []string{"", "a", "c"}[r.Intn(3)]), strconv.Itoa(i), float64(i))
			files = append(files, f)
			last[f.Path] = f
		}
		got := snap.Sorted(files)
		if len(got) != len(last) {
			t.Fatalf("%d files of %d paths", len(got), len(last))
		}
		for i, f := range got {
			if !sameFiles([]snap.File{f}, []snap.File{last[f.Path]}) || i > 0 && path.Compare(got[i-1].Path, f.Path) >= 0 {
				t.Fatalf("Sorted: %v of %v", got, files)
			}
		}
	}
}

// P1

func TestCallsTakeAnyArguments(t *testing.T) {
	r := rand.New(rand.NewSource(32))
	b := empty()
	ids := []api.ID{zero, {1}}
	for i := range 2000 {
		junk := noise(int64(i), r.Intn(80))
		if i%2 == 0 && len(b.puts) > 0 { // a record with a byte changed
			junk = []byte(b.puts[r.Intn(len(b.puts))])
			junk[r.Intn(len(junk))] ^= byte(1 + r.Intn(255))
		}
		ids = append(ids, b.add(junk, api.OK))
		id := ids[r.Intn(len(ids))]
		snap.Data(b, id)
		snap.Load(b, id)
		snap.Read(b, id)
		name := string(junk[:min(len(junk), 5)])
		for _, p := range []string{name, "a/" + name, "a"} {
			put, _ := snap.Scan(b, []snap.File{{Path: p, Data: junk, Stamp: oddNaN}, {Path: "b"}})
			ids = append(ids, put)
			put, _ = snap.Trees(b, []tree.File{{Path: p, ID: id}})
			ids = append(ids, put)
			snap.Sorted([]snap.File{{Path: p}, {Path: name, Data: junk}})
		}
		put, _ := snap.Commit(b, object.Commit{Tree: id, Parents: ids[max(0, len(ids)-r.Intn(12)):], Stamp: oddNaN, Note: name})
		ids = append(ids, put)
	}
}

// P2

// over: writes over bytes and their spare room.
func over(b []byte) {
	b = b[:cap(b)]
	for i := range b {
		b[i] ^= 0xff
	}
}

func TestWhatIsHandedInIsNeitherChangedNorKept(t *testing.T) {
	b := empty()
	room := append(noise(8, 3000), "spare room"...)
	was := bytes.Clone(room)
	data := room[:3000]
	id, _ := snap.Blob(b, data)
	files := []snap.File{{Path: "a", Data: data, Stamp: oddNaN}, aFile("b", "x", 0), aFile("c", "y", 0)}
	root, _ := snap.Scan(b, files[:2])
	sorted := snap.Sorted(files[:2])
	l := []tree.File{{Path: "a", ID: id, Stamp: oddNaN}, {Path: "b"}}
	snap.Trees(b, l[:1])
	parents := []api.ID{{3}, {1}, {3}, {2}}
	snap.Commit(b, object.Commit{Parents: parents[:3]})
	if !bytes.Equal(room, was) || files[0].Path != "a" || files[2].Path != "c" || math.Float64bits(files[0].Stamp) != math.Float64bits(oddNaN) || l[0].ID != id || l[1].Path != "b" {
		t.Error("what is handed in was changed")
	}
	if !slices.Equal(parents, []api.ID{{3}, {1}, {3}, {2}}) {
		t.Errorf("parents became %v", parents)
	}
	over(data)
	over(files[1].Data)
	if got, e := snap.Load(b, root); e != api.OK || !bytes.Equal(got[0].Data, was[:3000]) || string(got[1].Data) != "x" {
		t.Error("what is handed in was kept")
	}
	if !bytes.Equal(sorted[0].Data, was[:3000]) || string(sorted[1].Data) != "x" {
		t.Error("Sorted shares memory with what is handed in")
	}
}

func TestAnswersShareNothing(t *testing.T) {
	b := empty()
	id, _ := snap.Blob(b, []byte("xyz"))
	root, _ := snap.Scan(b, []snap.File{aFile("a", "xyz", 0), aFile("b", "xyz", 0)})
	commit, _ := snap.Commit(b, object.Commit{Parents: []api.ID{{1}, {2}}})
	data, _ := snap.Data(b, id)
	over(data)
	l, _ := snap.Load(b, root)
	over(l[0].Data)
	if string(l[1].Data) != "xyz" {
		t.Error("two files of one answer share memory")
	}
	clear(l[:cap(l)])
	x, _ := snap.Read(b, commit)
	clear(x.Parents[:cap(x.Parents)])
	f := aFile("a", "xyz", 0)
	sorted := snap.Sorted([]snap.File{f, {Path: "b", Data: f.Data}})
	over(sorted[0].Data)
	if string(sorted[1].Data) != "xyz" || string(f.Data) != "xyz" {
		t.Error("two files of one answer share memory, or one with what is handed in")
	}
	b.whole(t)
	if data, e := snap.Data(b, id); e != api.OK || string(data) != "xyz" {
		t.Error("an answer is what is kept")
	}
}
