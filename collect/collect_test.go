package collect_test

import (
	"bytes"
	"crypto/sha256"
	"math/rand"
	"slices"
	"strconv"
	"testing"

	"towline/api"
	"towline/collect"
	"towline/object"
	"towline/snap"
	"towline/store"
	"towline/vfs"
)

var zero api.ID

// box is a store that tells what was asked of it, and refuses what it is told to.
type box struct {
	records map[api.ID][]byte
	broken  map[api.ID]api.Errno // of these Get has an error
	gets    []api.ID
	kept    [][]api.ID
	refuse  api.Errno // of Keep
}

func empty() *box {
	return &box{records: map[api.ID][]byte{}, broken: map[api.ID]api.Errno{}}
}

func (b *box) Get(id api.ID) ([]byte, api.Errno) {
	b.gets = append(b.gets, id)
	if e := b.broken[id]; e != api.OK {
		return b.records[id], e // what stands beside an error is nobody's
	}
	data, there := b.records[id]
	if !there {
		return nil, api.ErrMissing
	}
	return data, api.OK // its own memory: who changes it is found out
}

func (b *box) Keep(ids ...api.ID) api.Errno {
	b.kept = append(b.kept, slices.Clone(ids))
	clear(ids) // what it does with its list is its own thing
	return b.refuse
}

// add: a record is there.
func (b *box) add(data []byte, e api.Errno) api.ID {
	if e != api.OK {
		panic(e)
	}
	b.records[sum(data)] = data
	return sum(data)
}

func (b *box) chunk(text string) api.ID { return b.add(object.PutChunk([]byte(text))) }

func (b *box) blob(chunks ...api.ID) api.ID {
	return b.add(object.PutBlob(object.Blob{Chunks: chunks}))
}

// folder: a tree of folders with these ids; which kind of record they are is nobody's business here.
func (b *box) folder(ids ...api.ID) api.ID {
	var l []object.Entry
	for i, id := range ids {
		l = append(l, object.Entry{Name: "n" + strconv.Itoa(1000+i), Folder: i%2 == 0, ID: id})
	}
	return b.add(object.PutTree(l))
}

func (b *box) commit(tree api.ID, parents ...api.ID) api.ID {
	return b.add(object.PutCommit(object.Commit{Tree: tree, Parents: rising(parents), Note: strconv.Itoa(len(b.records))}))
}

func sum(data []byte) api.ID { return api.ID(sha256.Sum256(data)) }

func compare(a, b api.ID) int { return bytes.Compare(a[:], b[:]) }

// rising: ids by their bytes, each once.
func rising(ids []api.ID) []api.ID {
	return slices.Compact(slices.SortedFunc(slices.Values(ids), compare))
}

// graph: random records of all kinds that tell of those ahead of them, and now and then of one that isn't there.
func graph(r *rand.Rand, size int) (*box, []api.ID) {
	b := empty()
	ids := []api.ID{b.chunk("first")}
	some := func(most int) []api.ID {
		var l []api.ID
		for range r.Intn(most) {
			l = append(l, ids[max(0, len(ids)-1-r.Intn(9))])
		}
		return l
	}
	for i := range size {
		switch r.Intn(5) {
		case 0:
			ids = append(ids, b.chunk(strconv.Itoa(i)))
		case 1:
			ids = append(ids, b.blob(some(6)...))
		case 2:
			ids = append(ids, b.folder(some(6)...))
		case 3:
			ids = append(ids, b.commit(ids[r.Intn(len(ids))], some(5)...))
		case 4:
			if r.Intn(4) == 0 {
				ids = append(ids, api.ID{byte(r.Intn(256)), byte(i), 77})
			}
		}
	}
	return b, ids
}

// reckoned: Mark by its words, by calls within calls.
func reckoned(b *box, roots []api.ID) ([]api.ID, api.Errno) {
	known := map[api.ID]bool{}
	var out []api.ID
	var into func(id api.ID) api.Errno
	into = func(id api.ID) api.Errno {
		if known[id] {
			return api.OK
		}
		known[id] = true
		data, e := b.Get(id)
		if e != api.OK {
			return e
		}
		links, e := object.Links(data)
		if e != api.OK {
			return e
		}
		for _, l := range links {
			if e := into(l); e != api.OK {
				return e
			}
		}
		out = append(out, id)
		return api.OK
	}
	for _, root := range roots {
		if e := into(root); e != api.OK {
			return nil, e
		}
	}
	return out, api.OK
}

// reckonedLost: Lost by its words.
func reckonedLost(b *box, roots []api.ID) []api.ID {
	known := map[api.ID]bool{}
	var out []api.ID
	var into func(id api.ID)
	into = func(id api.ID) {
		if known[id] {
			return
		}
		known[id] = true
		data, e := b.Get(id)
		if e != api.OK {
			out = append(out, id)
			return
		}
		links, _ := object.Links(data)
		for _, l := range links {
			into(l)
		}
	}
	for _, root := range roots {
		into(root)
	}
	slices.SortFunc(out, compare)
	return out
}

// marks: Mark answers just these ids.
func marks(t *testing.T, b *box, want []api.ID, roots ...api.ID) {
	t.Helper()
	got, e := collect.Mark(b, roots...)
	if e != api.OK || !slices.Equal(got, want) {
		t.Errorf("Mark: %v %v", short(got), e)
		t.Errorf("not   %v", short(want))
	}
}

// fails: Mark and Sweep answer this error, and nothing is kept.
func fails(t *testing.T, b *box, want api.Errno, roots ...api.ID) {
	t.Helper()
	if got, e := collect.Mark(b, roots...); e != want || got != nil {
		t.Errorf("Mark: %v %v, not %v", short(got), e, want)
	}
	kept := len(b.kept)
	if n, e := collect.Sweep(b, roots...); e != want || n != 0 || len(b.kept) != kept {
		t.Errorf("Sweep: %d %v, not %v", n, e, want)
	}
}

// loses: Lost answers just these ids, in the order of their bytes.
func loses(t *testing.T, b *box, want []api.ID, roots ...api.ID) {
	t.Helper()
	slices.SortFunc(want, compare)
	if got := collect.Lost(b, roots...); !slices.Equal(got, want) {
		t.Errorf("Lost: %v, not %v", short(got), short(want))
	}
}

func short(ids []api.ID) []string {
	var out []string
	for _, id := range ids {
		out = append(out, strconv.FormatUint(uint64(id[0])<<24|uint64(id[1])<<16|uint64(id[2])<<8|uint64(id[3]), 16))
	}
	return out
}

// P20.1

func TestMarkOfEachKind(t *testing.T) {
	b := empty()
	x, y, z := b.chunk("x"), b.chunk("y"), b.chunk("z")
	file, other := b.blob(y, x), b.blob(z)
	inner := b.folder(other)
	tree := b.folder(inner, file)
	first := b.commit(tree)
	alone := b.commit(b.folder())
	second := b.commit(inner, first, alone)
	marks(t, b, []api.ID{x}, x)
	marks(t, b, []api.ID{y, x, file}, file)
	marks(t, b, []api.ID{z, other, inner}, inner)
	marks(t, b, []api.ID{z, other, inner, y, x, file, tree}, tree)
	marks(t, b, []api.ID{z, other, inner, y, x, file, tree, first}, first)
	firsts, alones := []api.ID{y, x, file, tree, first}, []api.ID{b.folder(), alone}
	want := slices.Concat([]api.ID{z, other, inner}, firsts, alones, []api.ID{second})
	if compare(alone, first) < 0 {
		want = slices.Concat([]api.ID{z, other, inner}, alones, firsts, []api.ID{second})
	}
	marks(t, b, want, second)
}

func TestMarkOfTheExample(t *testing.T) {
	fs, _ := vfs.New(10000)
	s, _ := store.Open(fs)
	root, _ := snap.Scan(s, []snap.File{{Path: "a", Data: []byte("x")}})
	s.Put([]byte("another record"))
	ids, e := collect.Mark(s, root)
	if e != api.OK || len(ids) != 3 || ids[2] != root || len(s.IDs()) != 4 {
		t.Errorf("Mark: %v %v", short(ids), e)
	}
}

func TestMarkGoesFromTheLeftAndRootByRoot(t *testing.T) {
	b := empty()
	x, y, z := b.chunk("x"), b.chunk("y"), b.chunk("z")
	xy, yx := b.blob(x, y), b.blob(y, x)
	both := b.folder(yx, z, xy)
	marks(t, b, []api.ID{y, x, yx, z, xy, both}, both)
	marks(t, b, []api.ID{x, y, xy, yx, z, both}, xy, both)
	marks(t, b, []api.ID{z, x, y, xy, yx, both}, z, xy, both, yx)
	marks(t, b, []api.ID{y, x, yx, z, xy, both}, both, z, xy)
	marks(t, b, []api.ID{x, z, y}, x, z, y)
}

func TestMarkTellsEachOnce(t *testing.T) {
	b := empty()
	x, y := b.chunk("x"), b.chunk("y")
	file := b.blob(x, y, x, x, y)
	tree := b.folder(file, file, x, file)
	marks(t, b, []api.ID{x, y, file, tree}, tree, tree, file, x, tree)
	b.gets = nil
	collect.Mark(b, tree, file, tree)
	if !slices.Equal(b.gets, []api.ID{tree, file, x, y}) {
		t.Errorf("asked for %v", short(b.gets))
	}
}

func TestMarkFromNothing(t *testing.T) {
	b := empty()
	marks(t, b, nil)
	b.chunk("x")
	marks(t, b, nil)
	fails(t, b, api.ErrMissing, zero)
	fails(t, b, api.ErrMissing, b.chunk("y"), zero)
}

func TestMarkHasTheErrorOfGet(t *testing.T) {
	for _, e := range []api.Errno{api.ErrMissing, api.ErrSum, api.ErrCut, api.ErrRange, 77, -1} {
		b := empty()
		x, y := b.chunk("x"), b.chunk("y")
		tree := b.folder(b.blob(x), b.blob(y))
		b.broken[y] = e
		fails(t, b, e, tree)
		fails(t, b, e, x, tree)
		fails(t, b, e, y)
		marks(t, b, []api.ID{x}, x)
		b.broken[y], b.broken[tree] = api.OK, e
		fails(t, b, e, tree)
	}
}

func TestMarkHasTheErrorOfLinks(t *testing.T) {
	b := empty()
	x := b.chunk("x")
	late, _ := object.PutTree([]object.Entry{{Name: "a", ID: api.ID{1}}, {Name: "b", ID: x}})
	late[bytes.IndexByte(late, 'a')] = 'c' // and so its names don't rise
	for _, c := range []struct {
		data []byte
		want api.Errno
	}{{nil, api.ErrShort}, {[]byte("no record"), 0}, {late, api.ErrOrder}, {[]byte{0}, 0}} {
		_, e := object.Links(c.data)
		if e == api.OK || c.want != api.OK && e != c.want {
			t.Fatalf("Links of %q: %v", c.data, e)
		}
		bad := b.add(c.data, api.OK)
		fails(t, b, e, bad)
		fails(t, b, e, x, b.commit(b.folder(b.blob(x), bad)))
	}
}

func TestMarkHasTheErrorThatIsMetFirst(t *testing.T) {
	b := empty()
	bad := b.add([]byte("no record"), api.OK)
	_, wrong := object.Links([]byte("no record"))
	torn := b.chunk("torn")
	b.broken[torn] = api.ErrSum
	gone := api.ID{1}
	fails(t, b, wrong, b.folder(bad, torn, gone))
	fails(t, b, api.ErrSum, b.folder(torn, bad, gone))
	fails(t, b, api.ErrMissing, b.folder(gone, bad, torn))
	fails(t, b, wrong, b.folder(b.folder(b.blob(bad)), torn))
	fails(t, b, api.ErrSum, b.chunk("x"), torn, bad)
	fails(t, b, api.ErrMissing, b.folder(b.folder(b.folder(gone)), bad), torn)
	// The error of a record itself stands ahead of those of what it tells.
	late, _ := object.PutTree([]object.Entry{{Name: "a", ID: gone}, {Name: "b", ID: torn}})
	late[bytes.IndexByte(late, 'a')] = 'c'
	fails(t, b, api.ErrOrder, b.add(late, api.OK))
	b.gets = nil
	collect.Mark(b, b.folder(torn, b.chunk("x")))
	if len(b.gets) != 2 || b.gets[1] != torn {
		t.Errorf("asked for %v", short(b.gets))
	}
}

func TestMarkOfManyRecords(t *testing.T) {
	r := rand.New(rand.NewSource(41))
	whole, torn := 0, 0
	for range 1500 {
		b, ids := graph(r, r.Intn(60))
		if len(ids) > 3 && r.Intn(3) == 0 {
			b.broken[ids[r.Intn(len(ids))]] = []api.Errno{api.ErrSum, api.ErrCut}[r.Intn(2)]
		}
		var roots []api.ID
		for range r.Intn(4) {
			roots = append(roots, ids[r.Intn(len(ids))])
		}
		want, wrong := reckoned(b, roots)
		got, e := collect.Mark(b, roots...)
		if e != wrong || !slices.Equal(got, want) {
			t.Fatalf("Mark: %v %v, not %v %v", short(got), e, short(want), wrong)
		}
		b.gets = nil
		if got := collect.Lost(b, roots...); !slices.Equal(got, reckonedLost(b, roots)) || (len(got) == 0) != (e == api.OK) {
			t.Fatalf("Lost: %v", short(got))
		}
		n, e := collect.Sweep(b, roots...)
		if e != wrong || n != len(want) || len(b.kept) > 0 != (e == api.OK) || e == api.OK && !slices.Equal(b.kept[0], want) {
			t.Fatalf("Sweep: %d %v", n, e)
		}
		if e == api.OK {
			whole++
		} else {
			torn++
		}
	}
	if whole < 300 || torn < 300 {
		t.Errorf("%d whole, %d not", whole, torn)
	}
}

// row: snapshots that come from one another, the first one first.
func row(b *box, n int) []api.ID {
	tree := b.folder()
	ids := []api.ID{b.commit(tree)}
	for len(ids) < n {
		ids = append(ids, b.commit(tree, ids[len(ids)-1]))
	}
	return ids
}

func TestAsManySnapshotsInARowAsThereMayBe(t *testing.T) {
	b := empty()
	ids := row(b, 1<<16)
	want := append([]api.ID{b.folder()}, ids...)
	marks(t, b, want, ids[len(ids)-1])
	loses(t, b, nil, ids[len(ids)-1])
	delete(b.records, ids[0])
	fails(t, b, api.ErrMissing, ids[len(ids)-1])
	loses(t, b, []api.ID{ids[0]}, ids[len(ids)-1])
}

// P20.2

// opened: a store with two snapshots, and records that nobody tells of.
func opened(t *testing.T, room int) (*vfs.FS, *store.Store, api.ID, api.ID) {
	t.Helper()
	fs, _ := vfs.New(room)
	s, e := store.Open(fs)
	if e != api.OK {
		t.Fatal(e)
	}
	s.Put([]byte("nobody's"))
	root, _ := snap.Scan(s, []snap.File{{Path: "a/b", Data: []byte("x")}, {Path: "c", Data: []byte("y")}})
	first, _ := snap.Commit(s, object.Commit{Tree: root})
	root, _ = snap.Scan(s, []snap.File{{Path: "a/b", Data: []byte("z")}})
	second, _ := snap.Commit(s, object.Commit{Tree: root, Parents: []api.ID{first}})
	if e := s.Sync(); e != api.OK {
		t.Fatal(e)
	}
	return fs, s, first, second
}

func TestSweepKeepsJustWhatCanBeReached(t *testing.T) {
	for _, c := range []struct {
		name  string
		roots func(first, second api.ID) []api.ID
		want  int
	}{
		{"none", func(first, second api.ID) []api.ID { return nil }, 0},
		{"the first", func(first, second api.ID) []api.ID { return []api.ID{first} }, 7},
		{"the second", func(first, second api.ID) []api.ID { return []api.ID{second} }, 12},
		{"both", func(first, second api.ID) []api.ID { return []api.ID{first, second, first} }, 12},
	} {
		fs, s, first, second := opened(t, 1<<16)
		s.Put([]byte("not durable"))
		roots := c.roots(first, second)
		want, _ := collect.Mark(s, roots...)
		n, e := collect.Sweep(s, roots...)
		if e != api.OK || n != c.want || len(want) != n {
			t.Fatalf("%s: Sweep %d %v", c.name, n, e)
		}
		same := func() bool { return slices.Equal(rising(s.IDs()), rising(want)) && len(s.IDs()) == len(want) }
		if !same() {
			t.Errorf("%s: %d records are left", c.name, len(s.IDs()))
		}
		fs.Crash(0, 0)
		if s, e = store.Open(fs); e != api.OK || !same() {
			t.Errorf("%s: behind a crash others are left", c.name)
		}
	}
}

func TestSweepRefusedChangesNothing(t *testing.T) {
	for name, c := range map[string]struct {
		spoil func(fs *vfs.FS)
		more  []api.ID
		want  api.Errno
	}{
		"a root is missing":       {func(fs *vfs.FS) {}, []api.ID{{1}}, api.ErrMissing},
		"without power":           {func(fs *vfs.FS) { fs.Stop(0) }, nil, api.ErrCut},
		"missing, without power":  {func(fs *vfs.FS) { fs.Stop(0) }, []api.ID{{1}}, api.ErrMissing},
		"no room":                 {fill, nil, api.ErrFull},
		"no record, without room": {fill, []api.ID{sum([]byte("nobody's"))}, links("nobody's")},
	} {
		fs, s, _, second := opened(t, 1<<16)
		c.spoil(fs)
		was := s.IDs()
		if n, e := collect.Sweep(s, append([]api.ID{second}, c.more...)...); e != c.want || n != 0 {
			t.Errorf("%s: Sweep %d %v", name, n, e)
		}
		if !slices.Equal(rising(s.IDs()), rising(was)) {
			t.Errorf("%s: other records are there", name)
		}
		fs.Crash(0, 0)
		if s, e := store.Open(fs); e != api.OK || !slices.Equal(rising(s.IDs()), rising(was)) {
			t.Errorf("%s: behind a crash other records are there", name)
		}
	}
}

// fill: there is no room any more.
func fill(fs *vfs.FS) {
	fs.Create("other")
	fs.Append("other", make([]byte, fs.Left()))
	fs.Sync("other")
	fs.Flush()
}

// links: the error of Links.
func links(text string) api.Errno {
	_, e := object.Links([]byte(text))
	return e
}

func TestSweepHasTheErrorOfKeep(t *testing.T) {
	b := empty()
	tree := b.folder(b.blob(b.chunk("x")))
	for _, e := range []api.Errno{api.ErrFull, api.ErrCut, api.ErrMissing, 77} {
		b.refuse = e
		if n, got := collect.Sweep(b, tree); got != e || n != 0 {
			t.Errorf("Sweep: %d %v, not %v", n, got, e)
		}
	}
	b.refuse, b.kept = api.OK, nil
	want, _ := collect.Mark(b, tree)
	if n, e := collect.Sweep(b, tree, tree); e != api.OK || n != 3 || len(b.kept) != 1 || !slices.Equal(b.kept[0], want) {
		t.Errorf("Sweep: %d %v, kept %v", n, e, b.kept)
	}
	if n, e := collect.Sweep(b); e != api.OK || n != 0 || len(b.kept) != 2 || len(b.kept[1]) != 0 {
		t.Errorf("Sweep from nothing: %d %v, kept %v", n, e, b.kept)
	}
}

// P20.3

func TestLost(t *testing.T) {
	b := empty()
	x, y := b.chunk("x"), b.chunk("y")
	gone := []api.ID{{9}, {1, 200}, {1, 3}, {0, 0, 1}, {200}}
	tree := b.folder(b.blob(x, gone[0], y, gone[1], gone[0]), gone[2], b.folder(b.blob(gone[3])))
	commit := b.commit(tree, gone[4])
	loses(t, b, nil)
	loses(t, b, nil, x, y)
	loses(t, b, []api.ID{zero}, zero, zero)
	loses(t, b, gone[:4:4], tree)
	loses(t, b, slices.Clone(gone), commit)
	loses(t, b, slices.Clone(gone), commit, gone[4], tree, gone[0], x)
	loses(t, b, []api.ID{{3}, {2}}, api.ID{3}, api.ID{2}, api.ID{3})
	want := []api.ID{{0, 0, 1}, {1, 3}, {1, 200}, {9}, {200}}
	if got := collect.Lost(b, commit); !slices.Equal(got, want) {
		t.Errorf("Lost: %v", short(got))
	}
}

func TestLostIsWhateverHasAnErrorOfGet(t *testing.T) {
	for _, e := range []api.Errno{api.ErrMissing, api.ErrSum, api.ErrCut, 77, -1} {
		b := empty()
		x, y, z := b.chunk("x"), b.chunk("y"), b.chunk("z")
		inner := b.folder(b.blob(x), api.ID{5})
		tree := b.folder(inner, b.blob(y, z))
		b.broken[inner], b.broken[z] = e, e
		// What a record tells that isn't to be had is not known, even if its bytes stand beside the error.
		loses(t, b, []api.ID{inner, z}, tree)
		loses(t, b, []api.ID{inner, z}, tree, x)
		b.broken[x] = e
		loses(t, b, []api.ID{inner, z, x}, tree, x)
	}
}

func TestWhatHasNoLinksLosesNothing(t *testing.T) {
	b := empty()
	late, _ := object.PutTree([]object.Entry{{Name: "a", ID: api.ID{1}}, {Name: "b", ID: api.ID{2}}})
	right := b.add(bytes.Clone(late), api.OK)
	late[bytes.IndexByte(late, 'a')] = 'c'
	wrong := b.add(late, api.OK)
	none, junk := b.add(nil, api.OK), b.add([]byte("no record"), api.OK)
	loses(t, b, nil, none, junk, wrong)
	loses(t, b, []api.ID{{3}}, b.folder(none, junk, wrong, api.ID{3}))
	loses(t, b, []api.ID{{1}, {2}}, right, wrong)
}

func TestNothingIsLostOfAStore(t *testing.T) {
	_, s, first, second := opened(t, 1<<16)
	all, _ := collect.Mark(s, second)
	if l := collect.Lost(s, first, second); len(l) != 0 {
		t.Errorf("Lost: %v", short(l))
	}
	for _, gone := range all {
		kept := slices.DeleteFunc(slices.Clone(all), func(id api.ID) bool { return id == gone })
		fs, _ := vfs.New(1 << 16)
		part, _ := store.Open(fs)
		for _, id := range kept {
			data, _ := s.Get(id)
			part.Put(data)
		}
		if l := collect.Lost(part, second); !slices.Equal(l, []api.ID{gone}) {
			t.Errorf("Lost: %v, not %v", short(l), short([]api.ID{gone}))
		}
		if n, e := collect.Sweep(part, second); n != 0 || e != api.ErrMissing || len(part.IDs()) != len(kept) {
			t.Errorf("Sweep: %d %v", n, e)
		}
	}
}

// P1

// liar is a source all of whose answers are the same.
type liar []byte

func (l liar) Get(id api.ID) ([]byte, api.Errno) { return l, api.OK }

func (l liar) Keep(ids ...api.ID) api.Errno { return api.OK }

func TestCallsEndWhateverTheSource(t *testing.T) {
	self, other := api.ID{1}, api.ID{2}
	tree, _ := object.PutTree([]object.Entry{{Name: "a", ID: self}, {Name: "b", ID: other}, {Name: "c", ID: zero}})
	commit, _ := object.PutCommit(object.Commit{Tree: self, Parents: []api.ID{self, other}})
	for _, l := range []liar{nil, liar("no record"), liar(tree), liar(commit)} {
		collect.Mark(l, self, other)
		collect.Sweep(l, self)
		collect.Lost(l, other, self)
	}
	r := rand.New(rand.NewSource(42))
	for range 300 { // records under others' ids: they tell of one another in circles
		b, ids := graph(r, 30)
		for i, id := range ids {
			j := r.Intn(len(ids))
			b.records[ids[i]], b.records[ids[j]] = b.records[ids[j]], b.records[id]
		}
		collect.Mark(b, ids...)
		collect.Sweep(b, ids[len(ids)-1])
		collect.Lost(b, ids...)
	}
}

func TestCallsTakeAnyBytes(t *testing.T) {
	r := rand.New(rand.NewSource(43))
	b, ids := graph(r, 40)
	for range 3000 {
		data := bytes.Clone(b.records[ids[r.Intn(len(ids))]])
		if len(data) > 0 {
			data[r.Intn(len(data))] ^= byte(1 + r.Intn(255))
		}
		ids = append(ids, b.add(data[:r.Intn(len(data)+1)], api.OK), b.add(data, api.OK))
		root := ids[r.Intn(len(ids))]
		_, e := collect.Mark(b, root)
		if n, f := collect.Sweep(b, root); f != e || e != api.OK && n != 0 {
			t.Fatalf("Sweep: %d %v", n, f)
		}
		collect.Lost(b, root)
	}
}

// P2

func TestNothingThatIsHandedInIsChanged(t *testing.T) {
	r := rand.New(rand.NewSource(44))
	for range 100 {
		b, ids := graph(r, 40)
		roots := slices.Clone(ids)[:len(ids)/2]
		collect.Mark(b, roots...)
		collect.Lost(b, roots...)
		collect.Sweep(b, roots...)
		if !slices.Equal(roots[:len(ids)], ids) {
			t.Fatal("the list of roots has changed")
		}
		for id, data := range b.records {
			if sum(data) != id {
				t.Fatal("a record has changed")
			}
		}
	}
}

func TestAnswersAreNewMemory(t *testing.T) {
	b := empty()
	tree := b.folder(b.blob(b.chunk("x"), api.ID{1}), api.ID{2})
	roots := []api.ID{{5}, {3}, {7}}[:2]
	lost := collect.Lost(b, roots...)
	over(lost)
	if !slices.Equal(roots[:3], []api.ID{{5}, {3}, {7}}) {
		t.Error("Lost shares memory with what is handed in")
	}
	loses(t, b, []api.ID{{1}, {2}}, tree)
	whole := b.folder(b.blob(b.chunk("x")))
	first, _ := collect.Mark(b, whole)
	second, _ := collect.Mark(b, whole)
	over(first)
	if third, _ := collect.Mark(b, whole); !slices.Equal(second, third) || len(third) != 3 {
		t.Error("answers share memory")
	}
}

// over: writes over ids and their spare room.
func over(ids []api.ID) {
	ids = ids[:cap(ids)]
	for i := range ids {
		ids[i] = api.ID(bytes.Repeat([]byte{0xee}, 32))
	}
}

func TestNothingIsKeptFromCallToCall(t *testing.T) {
	b := empty()
	x := b.chunk("x")
	tree := b.folder(b.blob(x))
	marks(t, b, []api.ID{x, b.blob(x), tree}, tree)
	delete(b.records, x)
	fails(t, b, api.ErrMissing, tree)
	loses(t, b, []api.ID{x}, tree)
	b.chunk("x")
	loses(t, b, nil, tree)
	marks(t, b, []api.ID{x, b.blob(x), tree}, tree)
}
