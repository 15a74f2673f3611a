package talk_test

import (
	"bytes"
	"crypto/sha256"
	"math/rand"
	"slices"
	"strconv"
	"testing"

	"towline/api"
	"towline/collect"
	"towline/object"
	"towline/snap"
	"towline/store"
	"towline/talk"
	"towline/vfs"
)

var zero api.ID

// box is a source that refuses what it is told to, and hands out its own memory.
type box struct {
	records map[api.ID][]byte
	broken  map[api.ID]api.Errno // of these Get has an error
	gets    int
}

func empty() *box {
	return &box{records: map[api.ID][]byte{}, broken: map[api.ID]api.Errno{}}
}

func (b *box) Get(id api.ID) ([]byte, api.Errno) {
	b.gets++
	if e := b.broken[id]; e != api.OK {
		return b.records[id], e // what stands beside an error is nobody's
	}
	data, there := b.records[id]
	if !there {
		return nil, api.ErrMissing
	}
	return data, api.OK
}

// add: a record is there.
func (b *box) add(data []byte, e api.Errno) api.ID {
	if e != api.OK {
		panic(e)
	}
	b.records[sum(data)] = data
	return sum(data)
}

func (b *box) chunk(text string) api.ID { return b.add(object.PutChunk([]byte(text))) }

func (b *box) blob(chunks ...api.ID) api.ID {
	return b.add(object.PutBlob(object.Blob{Chunks: chunks}))
}

// folder: a tree of folders and files with these ids; which kind of record they are is nobody's business here.
func (b *box) folder(ids ...api.ID) api.ID {
	var l []object.Entry
	for i, id := range ids {
		l = append(l, object.Entry{Name: "n" + strconv.Itoa(1000+i), Folder: i%2 == 0, ID: id})
	}
	return b.add(object.PutTree(l))
}

func (b *box) commit(tree api.ID, parents ...api.ID) api.ID {
	slices.SortFunc(parents, func(a, b api.ID) int { return bytes.Compare(a[:], b[:]) })
	return b.add(object.PutCommit(object.Commit{Tree: tree, Parents: slices.Compact(parents), Note: strconv.Itoa(len(b.records))}))
}

// part: of a box just these records.
func (b *box) part(ids ...api.ID) *box {
	p := empty()
	for _, id := range ids {
		p.records[id] = b.records[id]
	}
	return p
}

// all: records of a box.
func (b *box) all(ids ...api.ID) [][]byte {
	var l [][]byte
	for _, id := range ids {
		l = append(l, b.records[id])
	}
	return l
}

func sum(data []byte) api.ID { return api.ID(sha256.Sum256(data)) }

func short(ids []api.ID) []string {
	var out []string
	for _, id := range ids {
		out = append(out, strconv.FormatUint(uint64(id[0])<<24|uint64(id[1])<<16|uint64(id[2])<<8|uint64(id[3]), 16))
	}
	return out
}

// chunks: so many chunks.
func (b *box) chunks(name string, n int) []api.ID {
	var ids []api.ID
	for i := range n {
		ids = append(ids, b.chunk(name+strconv.Itoa(i)))
	}
	return ids
}

// wants: a fetch wants just these, and is done if they are none.
func wants(t *testing.T, f *talk.Fetch, want ...api.ID) {
	t.Helper()
	if got := f.Want(); !slices.Equal(got, want) {
		t.Errorf("Want: %v, not %v", short(got), short(want))
	}
	if f.Done() != (len(want) == 0) {
		t.Errorf("Done: %v, and %d are lacking", f.Done(), len(want))
	}
}

// takes: so many records are put aside.
func takes(t *testing.T, f *talk.Fetch, want int, records ...[]byte) {
	t.Helper()
	if n := f.Take(records...); n != want {
		t.Errorf("Take: %d of %d, not %d", n, len(records), want)
	}
}

// gives: Records are just these.
func gives(t *testing.T, f *talk.Fetch, want ...[]byte) {
	t.Helper()
	if got := f.Records(); !slices.EqualFunc(got, want, bytes.Equal) {
		t.Errorf("Records: %q, not %q", got, want)
	}
}

// serves: Serve answers just these.
func serves(t *testing.T, own collect.Source, want [][]byte, ids ...api.ID) {
	t.Helper()
	got := talk.Serve(own, ids...)
	if len(got) != len(want) {
		t.Errorf("Serve: %d records, not %d", len(got), len(want))
		return
	}
	for i := range got {
		if !bytes.Equal(got[i], want[i]) {
			t.Errorf("Serve: record %d has %d bytes, not %d, or others", i, len(got[i]), len(want[i]))
		}
	}
}

// P21.1

func TestNewHasNothingAside(t *testing.T) {
	b := empty()
	x := b.chunk("x")
	tree := b.folder(b.blob(x))
	f := talk.New(empty(), tree)
	if f.Root() != tree {
		t.Errorf("Root: %x", f.Root())
	}
	wants(t, f, tree)
	gives(t, f)
	if data, e := f.Get(tree); e != api.ErrMissing || data != nil {
		t.Errorf("Get: %q %v", data, e)
	}
	f = talk.New(b, tree)
	wants(t, f)
	gives(t, f)
	f = talk.New(b, zero)
	if f.Root() != zero {
		t.Errorf("Root: %x", f.Root())
	}
	wants(t, f, zero)
}

func TestGetIsOwnBehindWhatIsAside(t *testing.T) {
	b, own := empty(), empty()
	x, y := b.chunk("x"), b.chunk("y")
	file := b.blob(x, y)
	own.records[y] = b.records[y]
	f := talk.New(own, file)
	has := func(id api.ID, want string, e api.Errno) {
		t.Helper()
		if data, got := f.Get(id); string(data) != want || got != e || e != api.OK && data != nil {
			t.Errorf("Get: %q %v, not %q %v", data, got, want, e)
		}
	}
	has(y, string(b.records[y]), api.OK)
	has(file, "", api.ErrMissing)
	takes(t, f, 2, b.records[file], b.records[x])
	has(file, string(b.records[file]), api.OK)
	has(x, string(b.records[x]), api.OK)
	own.records[x] = []byte("another one")
	has(x, string(b.records[x]), api.OK)
	for _, e := range []api.Errno{api.ErrSum, api.ErrCut, 77, -1} {
		own.broken[y], own.broken[x] = e, e
		has(y, "", e)
		has(x, string(b.records[x]), api.OK)
	}
	other := own.add([]byte("no record, and nobody tells of it"), api.OK)
	has(other, "no record, and nobody tells of it", api.OK)
	has(own.add(nil, api.OK), "", api.OK)
}

// P21.2

func TestWantGoesLevelByLevel(t *testing.T) {
	b := empty()
	x, y, z := b.chunk("x"), b.chunk("y"), b.chunk("z")
	left, right := b.blob(x, y, x), b.blob(z, y)
	inner := b.folder(right)
	tree := b.folder(left, inner, y, left)
	first := b.commit(b.folder(z))
	second := b.commit(tree, first)
	f := talk.New(empty(), second)
	for _, step := range [][]api.ID{{second}, {tree, first}, {left, inner, y, b.folder(z)}, {x, right, z}} {
		wants(t, f, step...)
		takes(t, f, len(step), b.all(step...)...)
	}
	wants(t, f)
	// What lies on one level is come by ahead of all that lies lower, whoever has it.
	wants(t, talk.New(b.part(second, tree, left, right), second), first, inner, y, x)
	wants(t, talk.New(b.part(second, tree, first, b.folder(z), inner), second), left, y, right, z)
	wants(t, talk.New(b.part(second, tree, first, left, inner, b.folder(z), right), second), y, x, z)
}

func TestWhatIsOwnIsGoneThrough(t *testing.T) {
	b := empty()
	x, y := b.chunk("x"), b.chunk("y")
	file := b.blob(x, y)
	tree := b.folder(file)
	commit := b.commit(tree)
	f := talk.New(b.part(commit, file, x), commit)
	wants(t, f, tree)
	takes(t, f, 1, b.records[tree])
	wants(t, f, y)
	takes(t, f, 1, b.records[y])
	wants(t, f)
	gives(t, f, b.records[y], b.records[tree])
}

func TestWantIsAtMostSixteen(t *testing.T) {
	for _, n := range []int{1, 15, 16, 17, 40, 4096} {
		b := empty()
		chunks := b.chunks("c", n)
		file := b.blob(append(chunks, chunks...)[:min(2*n, object.MaxChunks)]...)
		f := talk.New(b.part(file), file)
		wants(t, f, chunks[:min(n, 16)]...)
		takes(t, f, n, b.all(chunks...)...)
		wants(t, f)
	}
	if talk.MaxWant != 16 || talk.MaxBytes != 65536 {
		t.Error("the limits are others")
	}
}

func TestLackingIsWhateverHasAnErrorOfGet(t *testing.T) {
	for _, e := range []api.Errno{api.ErrMissing, api.ErrSum, api.ErrCut, 77, -1} {
		b := empty()
		x, y := b.chunk("x"), b.chunk("y")
		left, right := b.blob(x, api.ID{1}), b.blob(y, api.ID{2})
		tree := b.folder(left, right)
		b.broken[left], b.broken[y] = e, e
		// What a record tells that isn't to be had is not known, even if its bytes stand beside the error.
		f := talk.New(b, tree)
		wants(t, f, left, y, api.ID{2})
		takes(t, f, 2, b.records[left], b.records[y])
		wants(t, f, api.ID{1}, api.ID{2})
		gives(t, f)
	}
}

func TestWhatHasNoLinksLacksNothing(t *testing.T) {
	late, _ := object.PutTree([]object.Entry{{Name: "a", ID: api.ID{1}}, {Name: "b", ID: api.ID{2}}})
	late[bytes.IndexByte(late, 'a')] = 'c' // and so its names don't rise
	for _, bad := range [][]byte{nil, []byte("no record"), late} {
		b := empty()
		id := b.add(bad, api.OK)
		f := talk.New(b, id)
		wants(t, f)
		gives(t, f)
		tree := b.folder(id, api.ID{3})
		wants(t, talk.New(b, tree), api.ID{3})
		// It is there, and isn't lacking; but not all can be marked.
		x := b.chunk("x")
		tree = b.folder(x, id)
		delete(b.records, x)
		f = talk.New(b, tree)
		wants(t, f, x)
		b.chunk("x")
		record := b.records[x]
		delete(b.records, x)
		takes(t, f, 1, record)
		wants(t, f)
		gives(t, f)
	}
}

func TestTakeThrowsAwayWhatIsNoRecord(t *testing.T) {
	b := empty()
	x := b.chunk("x")
	file := b.blob(x)
	late, _ := object.PutTree([]object.Entry{{Name: "a", ID: x}, {Name: "b", ID: x}})
	late[bytes.IndexByte(late, 'a')] = 'c'
	bad := [][]byte{nil, {}, []byte("no"), late, {0}}
	var ids []api.ID
	for _, data := range bad {
		ids = append(ids, sum(data))
	}
	own := empty()
	tree := own.folder(append(ids, file)...)
	f := talk.New(own, tree)
	was := f.Want()
	takes(t, f, 0, bad...)
	takes(t, f, 0)
	wants(t, f, was...)
	takes(t, f, 1, append(slices.Clone(bad), b.records[file])...)
	for _, id := range ids {
		if data, e := f.Get(id); e != api.ErrMissing || data != nil {
			t.Errorf("Get: %q %v", data, e)
		}
	}
	gives(t, f)
}

func TestTakeThrowsAwayWhatIsSpoilt(t *testing.T) {
	b := empty()
	tree := b.folder(b.blob(b.chunk("xyz")))
	data := b.records[tree]
	f := talk.New(empty(), tree)
	for at := range data {
		for _, change := range []byte{1, 0x80, 0xff} {
			spoilt := bytes.Clone(data)
			spoilt[at] ^= change
			takes(t, f, 0, spoilt)
		}
		takes(t, f, 0, data[:at])
		takes(t, f, 0, append(bytes.Clone(data), data[:at+1]...))
	}
	wants(t, f, tree)
	takes(t, f, 1, data)
}

func TestTakeThrowsAwayWhatIsNotLacking(t *testing.T) {
	b := empty()
	x, y, z := b.chunk("x"), b.chunk("y"), b.chunk("z")
	file := b.blob(x, y)
	f := talk.New(b.part(y), file)
	takes(t, f, 0, b.records[z], b.records[y], b.records[x])
	takes(t, f, 1, b.records[z], b.records[file], b.records[file], b.records[y])
	takes(t, f, 0, b.records[file], b.records[z], b.records[y])
	wants(t, f, x)
	takes(t, f, 1, b.records[x], b.records[x])
	takes(t, f, 0, b.records[x], b.records[file])
	wants(t, f)
	if data, e := f.Get(z); e != api.ErrMissing || data != nil {
		t.Errorf("Get: %q %v", data, e)
	}
	gives(t, f, b.records[x], b.records[file])
}

func TestTakeGoesRecordByRecord(t *testing.T) {
	b := empty()
	x, y := b.chunk("x"), b.chunk("y")
	inner := b.blob(x, y)
	tree := b.folder(inner)
	commit := b.commit(tree)
	down := b.all(commit, tree, inner, x, y)
	up := slices.Clone(down)
	slices.Reverse(up)
	takes(t, talk.New(empty(), commit), 5, down...)
	f := talk.New(empty(), commit)
	for range 3 {
		takes(t, f, 1, up...)
	}
	takes(t, f, 2, up...)
	wants(t, f)
	// What lies below something of one's own is lacking as soon as that can be reached.
	f = talk.New(b.part(tree, inner), commit)
	takes(t, f, 0, b.records[x])
	takes(t, f, 3, b.records[commit], b.records[y], b.records[x], b.records[tree])
	wants(t, f)
	takes(t, talk.New(empty(), tree), 3, b.all(x, tree, y, inner, x)...)
}

func TestMoreThanSixteenAreTaken(t *testing.T) {
	b := empty()
	chunks := b.chunks("c", 100)
	file := b.blob(chunks...)
	f := talk.New(empty(), file)
	takes(t, f, 101, append([][]byte{b.records[file]}, b.all(chunks...)...)...)
	wants(t, f)
}

func TestWhatOwnHasOrLosesLaterCounts(t *testing.T) {
	b := empty()
	x, y := b.chunk("x"), b.chunk("y")
	file := b.blob(x, y)
	own := b.part(file, x)
	f := talk.New(own, file)
	wants(t, f, y)
	own.records[y] = b.records[y]
	wants(t, f)
	takes(t, f, 0, b.records[y])
	delete(own.records, file)
	wants(t, f, file)
	takes(t, f, 1, b.records[file])
	delete(own.records, x)
	wants(t, f, x)
	gives(t, f)
	own.records[x] = b.records[x]
	gives(t, f, b.records[file])
	takes(t, f, 0, b.records[x])
}

// P21.3

func TestRecordsStandAsMarkTells(t *testing.T) {
	b := empty()
	x, y, z := b.chunk("x"), b.chunk("y"), b.chunk("z")
	left, right := b.blob(y, x), b.blob(z, y)
	inner := b.folder(right)
	tree := b.folder(inner, left, x)
	commit := b.commit(tree)
	f := talk.New(b.part(y, inner), commit)
	for _, id := range []api.ID{commit, tree, left, right, x} {
		gives(t, f)
		takes(t, f, 1, b.records[id])
	}
	gives(t, f)
	takes(t, f, 1, b.records[z])
	gives(t, f, b.all(z, right, x, left, tree, commit)...)
	gives(t, f, b.all(z, right, x, left, tree, commit)...)
}

func TestRecordsAreNoneWhereMarkHasAnError(t *testing.T) {
	b := empty()
	x := b.chunk("x")
	junk := b.add([]byte("no record"), api.OK)
	file := b.blob(x)
	tree := b.folder(file, junk)
	own := b.part(junk, x)
	f := talk.New(own, tree)
	takes(t, f, 2, b.records[tree], b.records[file])
	wants(t, f)
	gives(t, f) // Done, but of one's own record there are no Links
	own.broken[x] = api.ErrSum
	wants(t, f, x)
	gives(t, f)
	own.broken[x], own.records[junk] = api.OK, b.records[x]
	gives(t, f, b.records[file], b.records[tree])
}

// P21.4

// sized: a chunk's record of just so many bytes.
func sized(t *testing.T, b *box, size int, fill byte) api.ID {
	t.Helper()
	for n := max(size-20, 0); n < size; n++ {
		if data, e := object.PutChunk(bytes.Repeat([]byte{fill}, n)); e == api.OK && len(data) == size {
			return b.add(data, e)
		}
	}
	t.Fatalf("no chunk's record has %d bytes", size)
	return zero
}

func TestServe(t *testing.T) {
	b := empty()
	x, y := b.chunk("x"), b.chunk("y")
	junk, none := b.add([]byte("no record"), api.OK), b.add(nil, api.OK)
	broken := b.chunk("broken")
	for _, e := range []api.Errno{api.ErrMissing, api.ErrSum, api.ErrCut, -1} {
		b.broken[broken] = e
		serves(t, b, nil)
		serves(t, b, nil, zero)
		serves(t, b, nil, zero, broken)
		serves(t, b, b.all(y, x), y, x)
		serves(t, b, b.all(y, x, y), zero, y, broken, x, api.ID{1}, y)
		serves(t, b, b.all(junk, none, x), junk, none, broken, x)
	}
}

func TestServeOfTheFirstSixteen(t *testing.T) {
	b := empty()
	ids := b.chunks("c", 40)
	for n := range 40 {
		serves(t, b, b.all(ids[:min(n, 16)]...), ids[:n]...)
	}
	gone := slices.Repeat([]api.ID{zero}, 15)
	serves(t, b, b.all(ids[0]), append(gone, ids...)...)
	serves(t, b, nil, append(append(gone, zero), ids...)...)
	serves(t, b, b.all(ids[3], ids[4]), slices.Concat(gone[:7], ids[3:4], gone[:7], ids[4:9])...)
	serves(t, b, slices.Repeat(b.all(ids[5]), 16), slices.Repeat(ids[5:6], 99)...)
}

func TestServeOfAsManyBytesAsMayBe(t *testing.T) {
	b := empty()
	all := sized(t, b, 65536, 1)
	more := sized(t, b, 65537, 2)
	half, other := sized(t, b, 32768, 3), sized(t, b, 32768, 4)
	above := sized(t, b, 32769, 5)
	most, e := object.PutChunk(make([]byte, api.MaxBlob))
	huge := b.add(most, e)
	small, none := b.chunk("x"), b.add(nil, api.OK)
	serves(t, b, b.all(all), all)
	serves(t, b, b.all(all), all, small)
	serves(t, b, b.all(all, none), all, none)
	serves(t, b, b.all(more), more)
	serves(t, b, b.all(more), more, none, small)
	serves(t, b, b.all(huge), huge, small, huge)
	serves(t, b, b.all(huge), zero, huge, small)
	serves(t, b, b.all(small), small, all, small)
	serves(t, b, b.all(none), none, more)
	serves(t, b, b.all(none, all), none, all)
	serves(t, b, b.all(half, other), half, other)
	serves(t, b, b.all(half, other), half, zero, other, small)
	serves(t, b, b.all(half), half, above)
	serves(t, b, b.all(half), half, above, other)
	serves(t, b, b.all(half, small), half, small, other, small)
	serves(t, b, b.all(half, half), half, half, half)
	ids := []api.ID{}
	for i := range byte(20) {
		ids = append(ids, sized(t, b, 4096, 10+i))
	}
	serves(t, b, b.all(ids[:16]...), ids...)
	serves(t, b, b.all(append([]api.ID{above}, ids[:7]...)...), append([]api.ID{above}, ids...)...)
	serves(t, b, b.all(append([]api.ID{half}, ids[:8]...)...), append([]api.ID{half}, ids...)...)
}

func TestServeGoesNoFurtherThanItAnswers(t *testing.T) {
	b := empty()
	half, above := sized(t, b, 32768, 1), sized(t, b, 32769, 2)
	b.gets = 0
	talk.Serve(b, half, zero, above, half, half)
	if b.gets != 3 {
		t.Errorf("asked for %d", b.gets)
	}
	b.gets = 0
	talk.Serve(b, slices.Repeat([]api.ID{zero}, 30)...)
	if b.gets != 16 {
		t.Errorf("asked for %d", b.gets)
	}
}

// The whole, against a reckoning from the words.

// model is a fetch by its words alone.
type model struct {
	own   *box
	root  api.ID
	aside map[api.ID][]byte
}

func (m model) get(id api.ID) ([]byte, api.Errno) {
	if data, there := m.aside[id]; there {
		return data, api.OK
	}
	return m.own.Get(id)
}

func (m model) lacking() []api.ID {
	var out []api.ID
	come := []api.ID{m.root}
	for at := 0; at < len(come); at++ {
		data, e := m.get(come[at])
		if e != api.OK {
			out = append(out, come[at])
			continue
		}
		links, _ := object.Links(data)
		for _, l := range links {
			if !slices.Contains(come, l) {
				come = append(come, l)
			}
		}
	}
	return out
}

func (m model) take(records [][]byte) int {
	n := 0
	for _, data := range records {
		if _, e := object.Links(data); e == api.OK && slices.Contains(m.lacking(), sum(data)) {
			m.aside[sum(data)] = bytes.Clone(data)
			n++
		}
	}
	return n
}

func (m model) records() [][]byte {
	known := map[api.ID]bool{}
	var out [][]byte
	var into func(id api.ID) bool
	into = func(id api.ID) bool {
		if known[id] {
			return true
		}
		known[id] = true
		data, e := m.get(id)
		links, f := object.Links(data)
		if e != api.OK || f != api.OK {
			return false
		}
		for _, l := range links {
			if !into(l) {
				return false
			}
		}
		if data, there := m.aside[id]; there {
			out = append(out, data)
		}
		return true
	}
	if !into(m.root) {
		return nil
	}
	return out
}

// graph: random records of all kinds that tell of those ahead of them.
func graph(r *rand.Rand, size int) (*box, []api.ID) {
	b := empty()
	ids := []api.ID{b.chunk("first")}
	some := func(most int) []api.ID {
		var l []api.ID
		for range r.Intn(most) {
			l = append(l, ids[max(0, len(ids)-1-r.Intn(9))])
		}
		return l
	}
	for i := range size {
		switch r.Intn(4) {
		case 0:
			ids = append(ids, b.chunk(strconv.Itoa(i)))
		case 1:
			ids = append(ids, b.blob(some(9)...))
		case 2:
			ids = append(ids, b.folder(some(9)...))
		case 3:
			ids = append(ids, b.commit(ids[r.Intn(len(ids))], some(5)...))
		}
	}
	return b, ids
}

func TestFetchesOfManyKinds(t *testing.T) {
	r := rand.New(rand.NewSource(51))
	done, wide := 0, 0
	for range 400 {
		b, ids := graph(r, 10+r.Intn(50))
		own := empty()
		for _, id := range ids {
			switch r.Intn(6) {
			case 0:
				own.records[id] = b.records[id]
			case 1:
				if r.Intn(9) == 0 {
					own.records[id], own.broken[id] = b.records[id], api.ErrSum
				}
			}
		}
		root := ids[len(ids)-1-r.Intn(5)]
		f, m := talk.New(own, root), model{own, root, map[api.ID][]byte{}}
		for range 60 {
			lacking := m.lacking()
			if len(lacking) > 16 {
				wide++
			}
			wants(t, f, lacking[:min(len(lacking), 16)]...)
			gives(t, f, m.records()...)
			if len(lacking) == 0 {
				done++
				break
			}
			var letter [][]byte
			for range r.Intn(7) {
				id := ids[r.Intn(len(ids))]
				if r.Intn(2) == 0 {
					id = lacking[r.Intn(len(lacking))]
				}
				data := bytes.Clone(b.records[id])
				if r.Intn(5) == 0 {
					data[r.Intn(len(data))] ^= byte(1 << r.Intn(8))
				}
				letter = append(letter, data)
			}
			takes(t, f, m.take(letter), letter...)
			if t.Failed() {
				return
			}
		}
	}
	if done < 300 || wide < 20 {
		t.Errorf("%d were done, %d were wide", done, wide)
	}
}

// opened: a store, and a snapshot of some files in it.
func opened(t *testing.T, files ...snap.File) (*store.Store, api.ID) {
	t.Helper()
	fs, _ := vfs.New(api.MaxDisk)
	s, e := store.Open(fs)
	if e != api.OK {
		t.Fatal(e)
	}
	root, e := snap.Scan(s, snap.Sorted(files))
	if e != api.OK {
		t.Fatal(e)
	}
	id, e := snap.Commit(s, object.Commit{Tree: root})
	if e != api.OK {
		t.Fatal(e)
	}
	return s, id
}

// noise: bytes that are cut into many chunks.
func noise(n int) []byte {
	data := make([]byte, n)
	rand.New(rand.NewSource(int64(n))).Read(data)
	return data
}

func TestAFetchOverABadNetwork(t *testing.T) {
	r := rand.New(rand.NewSource(52))
	from, root := opened(t, snap.File{Path: "a/b", Data: noise(150000), Stamp: 1}, snap.File{Path: "a/c", Data: noise(9)}, snap.File{Path: "d", Data: noise(70000)})
	to, mine := opened(t, snap.File{Path: "d", Data: noise(70000)})
	f := talk.New(to, root)
	put := 0
	for range 2000 {
		if f.Done() {
			break
		}
		letter := talk.Serve(from, f.Want()...)
		for i, data := range letter {
			switch r.Intn(4) {
			case 0:
				letter[i] = data[:r.Intn(len(data))]
			case 1:
				data[r.Intn(len(data))] ^= byte(1 + r.Intn(255))
			}
		}
		put += f.Take(append(letter, letter...)...)
	}
	records := f.Records()
	if !f.Done() || len(records) != put || put < 100 || put >= len(from.IDs()) {
		t.Fatalf("%d records were put aside, %d are given", put, len(records))
	}
	known := to.IDs()
	for _, data := range records {
		links, _ := object.Links(data)
		for _, l := range links {
			if !slices.Contains(known, l) {
				t.Fatal("a record stands ahead of one of which it tells")
			}
		}
		id, e := to.Put(data)
		if e != api.OK || slices.Contains(known, id) {
			t.Fatalf("Put: %v, or it was there", e)
		}
		known = append(known, id)
	}
	if lost := collect.Lost(to, root, mine); len(lost) > 0 {
		t.Errorf("%d are lost", len(lost))
	}
	x, _ := snap.Read(to, root)
	if files, e := snap.Load(to, x.Tree); e != api.OK || len(files) != 3 || !bytes.Equal(files[0].Data, noise(150000)) || files[0].Stamp != 1 {
		t.Errorf("Load: %d files, %v", len(files), e)
	}
	wants(t, f)
}

func TestAFetchOfAFetch(t *testing.T) {
	b := empty()
	x := b.chunk("x")
	file := b.blob(x)
	tree := b.folder(file)
	inner := talk.New(b.part(x), file)
	outer := talk.New(inner, tree)
	takes(t, outer, 1, b.records[tree])
	wants(t, outer, file)
	takes(t, inner, 1, b.records[file])
	wants(t, outer)
	gives(t, outer, b.records[tree])
	serves(t, outer, b.all(tree, file, x), tree, file, x)
}

func TestAsManySnapshotsInARowAsThereMayBe(t *testing.T) {
	b := empty()
	tree := b.folder()
	ids := []api.ID{b.commit(tree)}
	for len(ids) < 1<<16 {
		ids = append(ids, b.commit(tree, ids[len(ids)-1]))
	}
	last := ids[len(ids)-1]
	own := b.part(ids[1:]...)
	f := talk.New(own, last)
	wants(t, f, tree, ids[0])
	takes(t, f, 2, b.records[ids[0]], b.records[tree])
	gives(t, f, b.records[tree], b.records[ids[0]])
	f = talk.New(empty(), last)
	slices.Reverse(ids)
	takes(t, f, len(ids)+1, append(b.all(ids...), b.records[tree])...)
	if n := len(f.Records()); n != len(ids)+1 {
		t.Errorf("Records: %d", n)
	}
}

// P1

// liar is a source all of whose answers are the same.
type liar []byte

func (l liar) Get(id api.ID) ([]byte, api.Errno) { return l, api.OK }

func TestCallsEndWhateverTheSource(t *testing.T) {
	self, other := api.ID{1}, api.ID{2}
	tree, _ := object.PutTree([]object.Entry{{Name: "a", ID: self}, {Name: "b", ID: other}, {Name: "c", ID: zero}})
	commit, _ := object.PutCommit(object.Commit{Tree: self, Parents: []api.ID{self, other}})
	for _, l := range []liar{nil, liar("no record"), liar(tree), liar(commit)} {
		f := talk.New(l, self)
		wants(t, f)
		takes(t, f, 0, tree, commit, nil)
		gives(t, f)
		serves(t, l, [][]byte{l, l}, self, zero)
	}
	r := rand.New(rand.NewSource(53))
	for range 300 { // records under others' ids: they tell of one another in circles
		b, ids := graph(r, 30)
		for _, id := range ids {
			other := ids[r.Intn(len(ids))]
			b.records[id], b.records[other] = b.records[other], b.records[id]
		}
		delete(b.records, ids[r.Intn(len(ids))])
		f := talk.New(b, ids[len(ids)-1])
		f.Want()
		f.Take(b.all(ids...)...)
		f.Done()
		f.Records()
		talk.Serve(b, ids...)
	}
}

func TestTakeOfAnyBytes(t *testing.T) {
	r := rand.New(rand.NewSource(54))
	b, ids := graph(r, 40)
	for range 3000 {
		data := bytes.Clone(b.records[ids[r.Intn(len(ids))]])
		data[r.Intn(len(data))] ^= byte(1 + r.Intn(255))
		data = data[:len(data)-r.Intn(2)]
		_, e := object.Links(data)
		f := talk.New(empty(), sum(data))
		if n := f.Take(data, data); (n == 1) != (e == api.OK) || n > 1 {
			t.Fatalf("Take of %q: %d", data, n)
		}
		f.Want()
		f.Records()
	}
}

// P2

// over: writes over bytes and their spare room.
func over(b []byte) {
	b = b[:cap(b)]
	for i := range b {
		b[i] ^= 0xff
	}
}

func TestTakeNeitherChangesNorKeepsWhatIsHandedIn(t *testing.T) {
	b := empty()
	x, y := b.chunk("x"), b.chunk("y")
	file := b.blob(x, y)
	own := b.part(y)
	f := talk.New(own, file)
	room := slices.Concat(b.records[file], []byte("spare room"))
	was := bytes.Clone(room)
	letter := [][]byte{[]byte("no"), room[:len(b.records[file])], bytes.Clone(b.records[x]), []byte("behind")}
	takes(t, f, 2, letter[:3]...)
	if !bytes.Equal(room, was) || string(letter[0]) != "no" || string(letter[3]) != "behind" {
		t.Error("what is handed in was changed")
	}
	over(room)
	over(letter[2])
	clear(letter)
	gives(t, f, b.all(x, file)...)
	if sum(own.records[y]) != y || len(own.records) != 1 {
		t.Error("one's own records have changed")
	}
}

func TestAnswersShareNothing(t *testing.T) {
	b := empty()
	x, y, z := b.chunk("x"), b.chunk("y"), b.chunk("z")
	file := b.blob(x, y, z)
	f := talk.New(b.part(y), file)
	takes(t, f, 2, b.records[file], b.records[x])
	want := f.Want()
	for i := range want[:cap(want)] {
		want[:cap(want)][i] = zero
	}
	wants(t, f, z)
	takes(t, f, 1, b.records[z])
	for range 2 {
		for _, id := range []api.ID{file, x, y} { // of what is aside and of one's own
			data, _ := f.Get(id)
			over(data)
			if data, e := f.Get(id); e != api.OK || sum(data) != id {
				t.Error("an answer of Get is what is kept")
			}
		}
		records := f.Records()
		for i, data := range records {
			over(data)
			for _, other := range records[i+1:] {
				if _, e := object.Links(other); e != api.OK {
					t.Error("records of one answer share memory")
				}
			}
		}
		clear(records[:cap(records)])
		gives(t, f, b.all(x, z, file)...)
	}
}

func TestServeSharesNothing(t *testing.T) {
	b := empty()
	x, y := b.chunk("x"), b.chunk("y")
	ids := []api.ID{x, y, x, zero}
	letter := talk.Serve(b, ids[:3]...)
	over(letter[0])
	over(letter[1])
	if sum(letter[2]) != x || !slices.Equal(ids, []api.ID{x, y, x, zero}) {
		t.Error("records of one answer share memory, or the list of ids has changed")
	}
	clear(letter[:cap(letter)])
	serves(t, b, b.all(x, y), x, y)
	if sum(b.records[x]) != x || sum(b.records[y]) != y {
		t.Error("Serve answers one's own memory")
	}
}

func TestTwoFetchesShareNothing(t *testing.T) {
	b := empty()
	x := b.chunk("x")
	file := b.blob(x)
	own := empty()
	f, g := talk.New(own, file), talk.New(own, file)
	takes(t, f, 2, b.all(file, x)...)
	wants(t, f)
	wants(t, g, file)
	gives(t, g)
	if len(own.records) != 0 {
		t.Error("what is aside came to what one has")
	}
}
