package object_test

import (
	"bytes"
	"cmp"
	"crypto/sha256"
	"encoding/binary"
	"math"
	"math/rand"
	"reflect"
	"slices"
	"strings"
	"testing"

	"towline/api"
	"towline/grain"
	"towline/object"
)

var minusZero = math.Copysign(0, -1)

// num: an id that begins with a number.
func num(n int) api.ID {
	var id api.ID
	binary.BigEndian.PutUint32(id[:], uint32(n))
	return id
}

// id: an id as a value.
func id(n int) api.Value {
	x := num(n)
	return grain.Text(string(x[:]))
}

// ids: so many ids that rise.
func ids(n int) []api.ID {
	var l []api.ID
	for i := range n {
		l = append(l, num(i))
	}
	return l
}

func idRow(n int) api.Value {
	var l []api.Value
	for i := range n {
		l = append(l, id(i))
	}
	return grain.Row(l...)
}

func encoded(t *testing.T, v api.Value) []byte {
	t.Helper()
	b, e := grain.Encode(v)
	if e != api.OK {
		t.Fatalf("Encode: %v", e)
	}
	return b
}

func many(n int) string { return strings.Repeat("z", n) }

// entry: of a file with an id and a time.
func entry(name string) api.Value { return grain.Row(grain.Text(name), id(1), grain.Real(2)) }

func folder(name string) api.Value { return grain.Row(grain.Text(name), id(1)) }

// The records of values, whatever these are.
func chunkOf(v api.Value) api.Value           { return grain.Row(grain.Num(1), v) }
func blobOf(chunks, size api.Value) api.Value { return grain.Row(grain.Num(2), chunks, size) }
func treeOf(entries ...api.Value) api.Value   { return grain.Row(grain.Num(3), grain.Row(entries...)) }
func commitOf(tree, parents, stamp, author, note api.Value) api.Value {
	return grain.Row(grain.Num(4), tree, parents, stamp, author, note)
}

// just: records of each kind that are right.
func just() map[int][]api.Value {
	return map[int][]api.Value{
		object.KChunk: {chunkOf(grain.Text("")), chunkOf(grain.Text("a\x00\xff")), chunkOf(grain.Text(many(api.MaxBlob)))},
		object.KBlob: {
			blobOf(grain.Row(), grain.Num(0)), blobOf(idRow(3), grain.Num(9)), blobOf(grain.Row(id(2), id(1), id(2)), grain.Num(1)),
			blobOf(idRow(object.MaxChunks), grain.Num(api.MaxBlob)),
		},
		object.KTree: {
			treeOf(), treeOf(entry("a")), treeOf(folder("a"), entry("a.b"), folder("b")), treeOf(entry(many(api.MaxName))),
			treeOf(grain.Row(grain.Text("a"), id(1), grain.Real(math.NaN())), grain.Row(grain.Text("b"), id(1), grain.Real(minusZero))),
		},
		object.KCommit: {
			commitOf(id(1), grain.Row(), grain.Real(0), grain.Text(""), grain.Text("")),
			commitOf(id(5), idRow(object.MaxParents), grain.Real(math.Inf(-1)), grain.Text(many(api.MaxName)), grain.Text(many(object.MaxNote))),
			commitOf(id(1), grain.Row(id(1)), grain.Real(math.NaN()), grain.Text("a/\x00\n\xff"), grain.Text("..")),
		},
	}
}

// get: what the Get of a kind answers, beside an error without a value too.
func get(kind int, b []byte) (any, api.Errno, bool) {
	switch kind {
	case object.KChunk:
		x, e := object.GetChunk(b)
		return x, e, len(x) == 0
	case object.KBlob:
		x, e := object.GetBlob(b)
		return x, e, len(x.Chunks) == 0 && x.Size == 0
	case object.KTree:
		x, e := object.GetTree(b)
		return x, e, len(x) == 0
	}
	x, e := object.GetCommit(b)
	return x, e, len(x.Parents) == 0 && x.Tree == api.ID{} && x.Stamp == 0 && !math.Signbit(x.Stamp) && x.Author == "" && x.Note == ""
}

// put: the record of what a Get answered.
func put(x any) ([]byte, api.Errno) {
	switch x := x.(type) {
	case []byte:
		return object.PutChunk(x)
	case object.Blob:
		return object.PutBlob(x)
	case []object.Entry:
		return object.PutTree(x)
	case object.Commit:
		return object.PutCommit(x)
	}
	panic("no value")
}

func got(t *testing.T, kind int, b []byte) any {
	t.Helper()
	x, e, _ := get(kind, b)
	if e != api.OK {
		t.Errorf("Get of kind %d of %.100x: %v", kind, b, e)
	}
	return x
}

func notGot(t *testing.T, kind int, b []byte, want api.Errno) {
	t.Helper()
	if _, e, zero := get(kind, b); e != want || !zero {
		t.Errorf("Get of kind %d of %.100x: %v, not %v", kind, b, e, want)
	}
}

func refuses(t *testing.T, kind int, v api.Value, want api.Errno) {
	t.Helper()
	notGot(t, kind, encoded(t, v), want)
}

// errorOf: the error of the Get of a kind, from the words: the first that applies of a row of looks.
func errorOf(kind int, b []byte) api.Errno {
	v, e := grain.Decode(b)
	if e != api.OK {
		return e
	}
	has := map[int]int{object.KChunk: 2, object.KBlob: 3, object.KTree: 2, object.KCommit: 6}[kind]
	if v.Kind != grain.List || len(v.List) != has || v.List[0].Kind != grain.Uint {
		return api.ErrForm
	}
	if v.List[0].Uint != uint64(kind) {
		return api.ErrKind
	}
	l := v.List[1:]
	switch kind {
	case object.KChunk:
		return textError(l[0], 1<<18)
	case object.KBlob:
		return cmp.Or(listError(l[0], 4096, idError), numberError(l[1], 1<<18))
	case object.KTree:
		return cmp.Or(listError(l[0], 1024, entryError), namesError(l[0]))
	}
	return cmp.Or(idError(l[0]), listError(l[1], 8, idError), riseError(l[1]), pointError(l[2]), textError(l[3], 64), textError(l[4], 1024))
}

func textError(v api.Value, most int) api.Errno {
	if v.Kind != grain.Bytes {
		return api.ErrForm
	}
	if len(v.Bytes) > most {
		return api.ErrLong
	}
	return api.OK
}

func numberError(v api.Value, most uint64) api.Errno {
	if v.Kind != grain.Uint {
		return api.ErrForm
	}
	if v.Uint > most {
		return api.ErrLong
	}
	return api.OK
}

func pointError(v api.Value) api.Errno {
	if v.Kind != grain.Float {
		return api.ErrForm
	}
	return api.OK
}

func idError(v api.Value) api.Errno {
	if v.Kind != grain.Bytes || len(v.Bytes) != 32 {
		return api.ErrForm
	}
	return api.OK
}

func listError(v api.Value, most int, inner func(api.Value) api.Errno) api.Errno {
	if v.Kind != grain.List {
		return api.ErrForm
	}
	if len(v.List) > most {
		return api.ErrLong
	}
	for _, w := range v.List {
		if e := inner(w); e != api.OK {
			return e
		}
	}
	return api.OK
}

func entryError(v api.Value) api.Errno {
	if v.Kind != grain.List {
		return api.ErrForm
	}
	switch len(v.List) {
	case 0, 1:
		return api.ErrForm
	case 2:
		return cmp.Or(textError(v.List[0], 64), idError(v.List[1]))
	case 3:
		return cmp.Or(textError(v.List[0], 64), idError(v.List[1]), pointError(v.List[2]))
	}
	return api.ErrLong
}

func riseError(v api.Value) api.Errno {
	if v.Kind == grain.List {
		for i := range v.List {
			if i > 0 && string(v.List[i-1].Bytes) >= string(v.List[i].Bytes) {
				return api.ErrOrder
			}
		}
	}
	return api.OK
}

// isName: a name from the words of layer 5.
func isName(s string) bool {
	for _, c := range []byte(s) {
		if c < 32 || c == 127 || c == '/' {
			return false
		}
	}
	return s != "" && len(s) <= 64 && s != "." && s != ".."
}

func namesError(v api.Value) api.Errno {
	if v.Kind != grain.List {
		return api.OK
	}
	ahead := ""
	for i, w := range v.List {
		if w.Kind != grain.List || len(w.List) == 0 {
			return api.OK
		}
		name := string(w.List[0].Bytes)
		if !isName(name) {
			return api.ErrPath
		}
		if i > 0 && ahead >= name {
			return api.ErrOrder
		}
		ahead = name
	}
	return api.OK
}

// kindOf: the answer of Kind, from the words.
func kindOf(b []byte) (int, api.Errno) {
	v, e := grain.Decode(b)
	switch {
	case e != api.OK:
		return 0, e
	case v.Kind != grain.List || len(v.List) == 0 || v.List[0].Kind != grain.Uint:
		return 0, api.ErrForm
	case v.List[0].Uint < 1 || v.List[0].Uint > 4:
		return 0, api.ErrKind
	}
	return int(v.List[0].Uint), api.OK
}

// held: whether all calls answer for some bytes what the words say.
func held(t *testing.T, b []byte) {
	t.Helper()
	k, e := object.Kind(b)
	if wantK, wantE := kindOf(b); k != wantK || e != wantE {
		t.Errorf("Kind of %.200x: %d, %v, not %d, %v", b, k, e, wantK, wantE)
	}
	for kind := object.KChunk; kind <= object.KCommit; kind++ {
		want := errorOf(kind, b)
		x, e, zero := get(kind, b)
		if e != want || e != api.OK && !zero {
			t.Errorf("Get of kind %d of %.200x: %v, not %v", kind, b, e, want)
		}
		if e != api.OK {
			continue
		}
		if again, f := put(x); f != api.OK || !bytes.Equal(again, b) {
			t.Errorf("what the Get of kind %d answers of %.200x is put as %.200x, %v", kind, b, again, f)
		}
	}
	want, wantE := linksOf(b)
	if l, e := object.Links(b); e != wantE || !slices.Equal(l, want) {
		t.Errorf("Links of %.200x: %x, %v, not %x, %v", b, l, e, want, wantE)
	}
}

// linksOf: the answer of Links, from the words.
func linksOf(b []byte) ([]api.ID, api.Errno) {
	k, e := kindOf(b)
	if e == api.OK {
		e = errorOf(k, b)
	}
	if e != api.OK {
		return nil, e
	}
	v, _ := grain.Decode(b)
	var l []api.ID
	switch k {
	case object.KBlob:
		for _, w := range v.List[1].List {
			l = append(l, api.ID(w.Bytes))
		}
	case object.KTree:
		for _, w := range v.List[1].List {
			l = append(l, api.ID(w.List[1].Bytes))
		}
	case object.KCommit:
		l = append(l, api.ID(v.List[1].Bytes))
		for _, w := range v.List[2].List {
			l = append(l, api.ID(w.Bytes))
		}
	}
	return l, api.OK
}

// P9.1

func TestConstants(t *testing.T) {
	if object.KChunk != 1 || object.KBlob != 2 || object.KTree != 3 || object.KCommit != 4 {
		t.Error("the kinds")
	}
	if object.MaxChunks != 4096 || object.MaxEntries != 1024 || object.MaxParents != 8 || object.MaxNote != 1024 {
		t.Error("the limits")
	}
}

func TestName(t *testing.T) {
	for _, s := range []string{"", "a", "abc", "\x07\x04", many(1 << 21)} {
		if got := object.Name([]byte(s)); got != sha256.Sum256([]byte(s)) {
			t.Errorf("Name of %d bytes: %x", len(s), got)
		}
	}
}

func TestKind(t *testing.T) {
	for kind, l := range just() {
		for _, v := range l {
			if k, e := object.Kind(encoded(t, v)); k != kind || e != api.OK {
				t.Errorf("Kind of a record of kind %d: %d, %v", kind, k, e)
			}
		}
	}
	for kind := range uint64(4) {
		for _, v := range []api.Value{grain.Row(grain.Num(kind + 1)), grain.Row(grain.Num(kind+1), grain.Num(9), grain.Row())} {
			if k, e := object.Kind(encoded(t, v)); k != int(kind+1) || e != api.OK {
				t.Errorf("Kind looks at no more than the number: %d, %v", k, e)
			}
		}
	}
}

func TestKindRefuses(t *testing.T) {
	for _, c := range []struct {
		v    api.Value
		want api.Errno
	}{
		{grain.Num(1), api.ErrForm}, {grain.Text("\x04"), api.ErrForm}, {grain.Real(1), api.ErrForm}, {grain.Row(), api.ErrForm},
		{grain.Row(grain.Text("\x01")), api.ErrForm}, {grain.Row(grain.Real(1)), api.ErrForm}, {grain.Row(grain.Row(grain.Num(1))), api.ErrForm},
		{grain.Row(grain.Num(0)), api.ErrKind}, {grain.Row(grain.Num(5)), api.ErrKind}, {grain.Row(grain.Num(257)), api.ErrKind},
		{grain.Row(grain.Num(1<<32 + 1)), api.ErrKind}, {grain.Row(grain.Num(math.MaxUint64)), api.ErrKind}, {grain.Row(grain.Num(1<<63 + 1)), api.ErrKind},
	} {
		if k, e := object.Kind(encoded(t, c.v)); k != 0 || e != c.want {
			t.Errorf("Kind of %v: %d, %v, not %v", c.v, k, e, c.want)
		}
	}
}

func TestAllTellTheErrorOfDecode(t *testing.T) {
	for s, want := range map[string]api.Errno{
		"": api.ErrShort, "\x0b\x04\x05": api.ErrShort, "\x0b\x04\x80\x00": api.ErrWide, "\x0b\x04\x06" + many(8): api.ErrTag,
		"\x0b\x04\x01\x00": api.ErrRest, strings.Repeat("\x07", 16): api.ErrDeep, many(1<<20 + 1): api.ErrLong, "\x00\x00": api.ErrRest,
	} {
		for kind := object.KChunk; kind <= object.KCommit; kind++ {
			notGot(t, kind, []byte(s), want)
		}
		if k, e := object.Kind([]byte(s)); k != 0 || e != want {
			t.Errorf("Kind of %.20x: %d, %v, not %v", s, k, e, want)
		}
		if l, e := object.Links([]byte(s)); len(l) != 0 || e != want {
			t.Errorf("Links of %.20x: %x, %v, not %v", s, l, e, want)
		}
	}
}

func TestGetLooksAtTheWholeFirst(t *testing.T) {
	bad := grain.Row(grain.Num(9))
	for kind := object.KChunk; kind <= object.KCommit; kind++ {
		values := map[int]int{object.KChunk: 1, object.KBlob: 2, object.KTree: 1, object.KCommit: 5}[kind]
		for _, v := range []api.Value{grain.Num(uint64(kind)), grain.Text(many(values)), grain.Real(1), grain.Row()} {
			refuses(t, kind, v, api.ErrForm)
		}
		for n := range 8 {
			for _, first := range []api.Value{grain.Num(uint64(kind)), grain.Num(0), grain.Num(5), grain.Num(uint64(kind%4 + 1)), grain.Num(1<<32 + uint64(kind)), grain.Text("a"), grain.Real(float64(kind)), grain.Row()} {
				row := append([]api.Value{first}, slices.Repeat([]api.Value{bad}, n)...)
				want := api.ErrForm
				if n == values && first.Kind == grain.Uint && first.Uint != uint64(kind) {
					want = api.ErrKind
				}
				refuses(t, kind, grain.Row(row...), want)
			}
		}
	}
	chunk, tree := encoded(t, chunkOf(grain.Text("a"))), encoded(t, treeOf())
	notGot(t, object.KTree, chunk, api.ErrKind)
	notGot(t, object.KChunk, tree, api.ErrKind)
	notGot(t, object.KBlob, chunk, api.ErrForm)
}

func TestWhatIsRightIsTakenBothWays(t *testing.T) {
	for kind, l := range just() {
		for _, v := range l {
			b := encoded(t, v)
			got(t, kind, b)
			held(t, b)
		}
	}
}

// P9.2

func TestChunk(t *testing.T) {
	for _, s := range []string{"", "a", "\x00\xff", many(api.MaxBlob)} {
		b, e := object.PutChunk([]byte(s))
		if want := encoded(t, chunkOf(grain.Text(s))); e != api.OK || !bytes.Equal(b, want) {
			t.Errorf("PutChunk of %d bytes: %v", len(s), e)
		}
		if x := got(t, object.KChunk, b).([]byte); string(x) != s {
			t.Errorf("GetChunk: %d bytes, not %d", len(x), len(s))
		}
	}
	if b, _ := object.PutChunk([]byte("a")); string(b) != "\x0b\x04\x05a" {
		t.Errorf("the record of a: %x", b)
	}
	for _, n := range []int{api.MaxBlob + 1, 1 << 21} {
		if b, e := object.PutChunk([]byte(many(n))); e != api.ErrLong || len(b) != 0 {
			t.Errorf("PutChunk of %d bytes: %v", n, e)
		}
	}
	refuses(t, object.KChunk, chunkOf(grain.Text(many(api.MaxBlob+1))), api.ErrLong)
	for _, v := range []api.Value{grain.Num(1), grain.Real(1), grain.Row(), grain.Row(grain.Text("a"))} {
		refuses(t, object.KChunk, chunkOf(v), api.ErrForm)
	}
}

func TestBlob(t *testing.T) {
	for _, x := range []object.Blob{{}, {Chunks: ids(1), Size: 1}, {Chunks: []api.ID{num(2), num(1), num(2)}, Size: 9}, {Size: api.MaxBlob}, {Chunks: ids(object.MaxChunks)}} {
		b, e := object.PutBlob(x)
		var chunks []api.Value
		for _, id := range x.Chunks {
			chunks = append(chunks, grain.Text(string(id[:])))
		}
		if want := encoded(t, blobOf(grain.Row(chunks...), grain.Num(uint64(x.Size)))); e != api.OK || !bytes.Equal(b, want) {
			t.Errorf("PutBlob of %v: %v", x, e)
		}
		if y := got(t, object.KBlob, b).(object.Blob); y.Size != x.Size || !slices.Equal(y.Chunks, x.Chunks) {
			t.Errorf("GetBlob: %v, not %v", y, x)
		}
	}
}

func TestPutBlobRefuses(t *testing.T) {
	for _, c := range []struct {
		chunks, size int
		want         api.Errno
	}{
		{object.MaxChunks + 1, 0, api.ErrLong}, {0, api.MaxBlob + 1, api.ErrLong}, {0, math.MaxInt, api.ErrLong}, {0, -1, api.ErrRange},
		{0, math.MinInt, api.ErrRange}, {object.MaxChunks, -1, api.ErrRange}, {object.MaxChunks + 1, -1, api.ErrLong}, {1 << 16, math.MaxInt, api.ErrLong},
	} {
		if b, e := object.PutBlob(object.Blob{Chunks: make([]api.ID, c.chunks), Size: c.size}); e != c.want || len(b) != 0 {
			t.Errorf("PutBlob of %d chunks, size %d: %v, not %v", c.chunks, c.size, e, c.want)
		}
	}
}

func TestGetBlobRefuses(t *testing.T) {
	zero := grain.Num(0)
	for _, v := range []api.Value{zero, grain.Text(many(32)), grain.Real(0), grain.Row(zero), grain.Row(id(1), grain.Row()), grain.Row(grain.Real(1)),
		grain.Row(grain.Text("")), grain.Row(grain.Text(many(31))), grain.Row(grain.Text(many(33))), grain.Row(grain.Row(id(1)))} {
		refuses(t, object.KBlob, blobOf(v, zero), api.ErrForm)
		refuses(t, object.KBlob, blobOf(v, grain.Num(api.MaxBlob+1)), api.ErrForm)
	}
	for _, v := range []api.Value{grain.Text(""), grain.Real(0), grain.Row(), grain.Row(zero)} {
		refuses(t, object.KBlob, blobOf(idRow(2), v), api.ErrForm)
		refuses(t, object.KBlob, blobOf(idRow(object.MaxChunks+1), v), api.ErrLong)
	}
	for _, n := range []uint64{api.MaxBlob + 1, 1 << 32, 1 << 63, math.MaxUint64} {
		refuses(t, object.KBlob, blobOf(grain.Row(), grain.Num(n)), api.ErrLong)
	}
	refuses(t, object.KBlob, blobOf(idRow(object.MaxChunks+1), zero), api.ErrLong)
	refuses(t, object.KBlob, blobOf(grain.Row(append(idRow(object.MaxChunks).List, zero)...), zero), api.ErrLong)
	refuses(t, object.KBlob, blobOf(grain.Row(append(idRow(object.MaxChunks-1).List, zero)...), zero), api.ErrForm)
}

// P9.3

func names(l ...string) []object.Entry {
	var out []object.Entry
	for i, s := range l {
		out = append(out, object.Entry{Name: s, Folder: i%2 == 1, ID: num(i)})
	}
	return out
}

// numbered: so many names that rise.
func numbered(n int) []string {
	var l []string
	for i := range n {
		l = append(l, string([]byte{'a' + byte(i>>8), 'A' + byte(i>>4&15), 'A' + byte(i&15)}))
	}
	return l
}

func TestTree(t *testing.T) {
	for _, l := range [][]object.Entry{
		nil, names("a"), names("a", "a ", "a.b", "aa", "b", "\x80", "\xff\xfe"), names(many(api.MaxName)), names("...", ".a", "A", "a"), names(numbered(object.MaxEntries)...),
		{{Name: "a", ID: num(3), Stamp: -1}, {Name: "b", ID: num(3), Stamp: minusZero}, {Name: "c", Stamp: math.Inf(1)}},
	} {
		var rows []api.Value
		for _, x := range l {
			row := []api.Value{grain.Text(x.Name), grain.Text(string(x.ID[:]))}
			if !x.Folder {
				row = append(row, grain.Real(x.Stamp))
			}
			rows = append(rows, grain.Row(row...))
		}
		b, e := object.PutTree(l)
		if e != api.OK || !bytes.Equal(b, encoded(t, treeOf(rows...))) {
			t.Errorf("PutTree of %v: %v", l, e)
		}
		if m := got(t, object.KTree, b).([]object.Entry); !slices.EqualFunc(l, m, sameEntry) {
			t.Errorf("GetTree: %v, not %v", m, l)
		}
		if !bytes.Equal(b, encoded(t, treeOf(rows...))) {
			t.Error("GetTree changed a record")
		}
	}
}

func sameEntry(x, y object.Entry) bool {
	return x.Name == y.Name && x.Folder == y.Folder && x.ID == y.ID && math.Float64bits(x.Stamp) == math.Float64bits(y.Stamp)
}

func TestTreeHasOneFormOfStamps(t *testing.T) {
	odd := math.Float64frombits(0xfff8000000000007)
	b, e := object.PutTree([]object.Entry{{Name: "a", Stamp: odd}, {Name: "b", Folder: true, Stamp: odd}, {Name: "c", Folder: true, Stamp: 3}})
	if e != api.OK {
		t.Fatal(e)
	}
	l := got(t, object.KTree, b).([]object.Entry)
	if len(l) != 3 || math.Float64bits(l[0].Stamp) != 0x7ff8000000000000 || l[0].Folder || math.Float64bits(l[1].Stamp) != 0 || !l[1].Folder || l[2].Stamp != 0 {
		t.Errorf("%v", l)
	}
}

func TestPutTreeRefuses(t *testing.T) {
	for _, c := range []struct {
		names []string
		want  api.Errno
	}{
		{list(""), api.ErrPath}, {list("."), api.ErrPath}, {list(".."), api.ErrPath}, {list("a/b"), api.ErrPath}, {list("a\x1f"), api.ErrPath}, {list("\x7f"), api.ErrPath},
		{list(many(api.MaxName + 1)), api.ErrPath}, {list("a", "b", ""), api.ErrPath}, {list("b", "/"), api.ErrPath}, {list("b", "a", ""), api.ErrOrder},
		{list("b", "a"), api.ErrOrder}, {list("a", "a"), api.ErrOrder}, {list("a", "b", "b"), api.ErrOrder}, {list("a.b", "a"), api.ErrOrder}, {list("\xff", "z"), api.ErrOrder},
		{list("a", "b", "a", "c"), api.ErrOrder}, {list("", "b", "a"), api.ErrPath}, {list("b", "c", "a", "/"), api.ErrOrder}, {list("a", "B"), api.ErrOrder},
		{append(numbered(object.MaxEntries), "z"), api.ErrLong}, {append(list(""), numbered(object.MaxEntries)...), api.ErrLong}, {make([]string, 1<<16), api.ErrLong},
		{append(numbered(object.MaxEntries-1), ""), api.ErrPath}, {append(numbered(object.MaxEntries-1), "a"), api.ErrOrder},
	} {
		if b, e := object.PutTree(names(c.names...)); e != c.want || len(b) != 0 {
			t.Errorf("PutTree of %.80q: %v, not %v", c.names, e, c.want)
		}
	}
}

func list(s ...string) []string { return s }

func TestGetTreeRefuses(t *testing.T) {
	a, name, stamp, zero := entry("a"), grain.Text("a"), grain.Real(1), grain.Num(0)
	none := grain.Row()
	for _, v := range []api.Value{zero, grain.Text("a"), grain.Real(1)} {
		refuses(t, object.KTree, grain.Row(grain.Num(3), v), api.ErrForm)
		refuses(t, object.KTree, treeOf(v), api.ErrForm)
		refuses(t, object.KTree, treeOf(a, v), api.ErrForm)
	}
	for _, c := range []struct {
		entry api.Value
		want  api.Errno
	}{
		{none, api.ErrForm}, {grain.Row(name), api.ErrForm}, {grain.Row(zero), api.ErrForm}, {grain.Row(grain.Text(many(65))), api.ErrForm},
		{grain.Row(name, id(1), stamp, zero), api.ErrLong}, {grain.Row(zero, zero, zero, zero), api.ErrLong}, {grain.Row(slices.Repeat([]api.Value{zero}, 5000)...), api.ErrLong},
		{grain.Row(zero, id(1)), api.ErrForm}, {grain.Row(stamp, id(1), stamp), api.ErrForm}, {grain.Row(none, id(1), stamp), api.ErrForm},
		{grain.Row(grain.Text(many(65)), id(1)), api.ErrLong}, {grain.Row(grain.Text(many(65)), zero, zero), api.ErrLong}, {grain.Row(grain.Text(strings.Repeat("/", 65)), id(1)), api.ErrLong},
		{grain.Row(name, zero), api.ErrForm}, {grain.Row(name, grain.Text("")), api.ErrForm}, {grain.Row(name, grain.Text(many(31)), stamp), api.ErrForm},
		{grain.Row(name, grain.Text(many(33)), stamp), api.ErrForm}, {grain.Row(name, grain.Row(id(1))), api.ErrForm}, {grain.Row(name, stamp), api.ErrForm},
		{grain.Row(name, id(1), zero), api.ErrForm}, {grain.Row(name, id(1), grain.Text("")), api.ErrForm}, {grain.Row(name, id(1), none), api.ErrForm},
		{folder(""), api.ErrPath}, {entry("."), api.ErrPath}, {folder(".."), api.ErrPath}, {entry("a/b"), api.ErrPath}, {entry("\n"), api.ErrPath},
		{entry(strings.Repeat("\x7f", 64)), api.ErrPath}, {entry("A"), api.ErrOrder}, {folder("a"), api.ErrOrder},
	} {
		refuses(t, object.KTree, treeOf(a, c.entry), c.want)
		refuses(t, object.KTree, treeOf(a, c.entry, entry("b")), c.want)
		if c.want != api.ErrOrder {
			refuses(t, object.KTree, treeOf(c.entry), c.want)
		}
		// What is wrong with names and their order is looked at behind all entries.
		want := c.want
		if want != api.ErrForm && want != api.ErrLong {
			want = api.ErrForm
		}
		refuses(t, object.KTree, treeOf(a, c.entry, zero), want)
		want = c.want
		if want == api.ErrOrder {
			want = api.ErrPath
		}
		refuses(t, object.KTree, treeOf(folder("/"), c.entry), want)
	}
	refuses(t, object.KTree, treeOf(entry("b"), entry("a")), api.ErrOrder)
	refuses(t, object.KTree, treeOf(entry("b"), entry("a"), entry("")), api.ErrOrder)
	refuses(t, object.KTree, treeOf(entry("b"), entry(""), entry("a")), api.ErrPath)
}

func TestGetTreeOfManyEntries(t *testing.T) {
	var most []api.Value
	for _, s := range numbered(object.MaxEntries) {
		most = append(most, entry(s))
	}
	got(t, object.KTree, encoded(t, treeOf(most...)))
	refuses(t, object.KTree, treeOf(append(most, entry("z"))...), api.ErrLong)
	refuses(t, object.KTree, treeOf(append(most, grain.Num(0))...), api.ErrLong)
	refuses(t, object.KTree, treeOf(append([]api.Value{grain.Num(0)}, most...)...), api.ErrLong)
	refuses(t, object.KTree, treeOf(append(most[:object.MaxEntries-1:object.MaxEntries-1], grain.Num(0))...), api.ErrForm)
}

// P9.4

func sameCommit(x, y object.Commit) bool {
	return x.Tree == y.Tree && slices.Equal(x.Parents, y.Parents) && math.Float64bits(x.Stamp) == math.Float64bits(y.Stamp) && x.Author == y.Author && x.Note == y.Note
}

func TestCommit(t *testing.T) {
	for _, x := range []object.Commit{
		{}, {Tree: num(7), Parents: ids(2), Stamp: 0.5, Author: "ann", Note: "why"}, {Parents: []api.ID{num(9)}}, {Tree: num(1), Parents: []api.ID{num(1)}},
		{Parents: ids(object.MaxParents), Stamp: minusZero, Author: many(api.MaxName), Note: many(object.MaxNote)}, {Stamp: math.Inf(1), Author: "\x00/\xff", Note: "\n"},
		{Parents: []api.ID{{31: 1}, {31: 2}, {31: 255}, {30: 1}, {1}, {127}, {128}, {255}}},
	} {
		var parents []api.Value
		for _, id := range x.Parents {
			parents = append(parents, grain.Text(string(id[:])))
		}
		b, e := object.PutCommit(x)
		want := encoded(t, commitOf(grain.Text(string(x.Tree[:])), grain.Row(parents...), grain.Real(x.Stamp), grain.Text(x.Author), grain.Text(x.Note)))
		if e != api.OK || !bytes.Equal(b, want) {
			t.Errorf("PutCommit of %v: %v", x, e)
		}
		if y := got(t, object.KCommit, b).(object.Commit); !sameCommit(x, y) {
			t.Errorf("GetCommit: %v, not %v", y, x)
		}
	}
	b, _ := object.PutCommit(object.Commit{Stamp: math.Float64frombits(0xfff8000000000007)})
	if y := got(t, object.KCommit, b).(object.Commit); math.Float64bits(y.Stamp) != 0x7ff8000000000000 {
		t.Errorf("no number as a stamp: %x", math.Float64bits(y.Stamp))
	}
}

func TestPutCommitRefuses(t *testing.T) {
	fall := []api.ID{num(2), num(1)}
	for _, c := range []struct {
		x    object.Commit
		want api.Errno
	}{
		{object.Commit{Parents: ids(object.MaxParents + 1)}, api.ErrLong}, {object.Commit{Parents: make([]api.ID, object.MaxParents+1)}, api.ErrLong},
		{object.Commit{Parents: fall, Author: many(api.MaxName + 1)}, api.ErrLong}, {object.Commit{Parents: fall, Note: many(object.MaxNote + 1)}, api.ErrLong},
		{object.Commit{Author: many(api.MaxName + 1)}, api.ErrLong}, {object.Commit{Note: many(object.MaxNote + 1)}, api.ErrLong}, {object.Commit{Note: many(1 << 21)}, api.ErrLong},
		{object.Commit{Parents: fall}, api.ErrOrder}, {object.Commit{Parents: make([]api.ID, 2)}, api.ErrOrder}, {object.Commit{Parents: make([]api.ID, object.MaxParents)}, api.ErrOrder},
		{object.Commit{Parents: []api.ID{{}, {1}, {1}}}, api.ErrOrder}, {object.Commit{Parents: []api.ID{{30: 1}, {31: 1}}}, api.ErrOrder}, {object.Commit{Parents: []api.ID{{128}, {127}}}, api.ErrOrder},
		{object.Commit{Parents: []api.ID{{3}, {1}, {2}}}, api.ErrOrder}, {object.Commit{Parents: []api.ID{{1}, {3}, {2}}}, api.ErrOrder},
	} {
		if b, e := object.PutCommit(c.x); e != c.want || len(b) != 0 {
			t.Errorf("PutCommit of %.200v: %v, not %v", c.x, e, c.want)
		}
	}
}

func TestGetCommitRefuses(t *testing.T) {
	// From the left: each value with what is wrong with it, the ones ahead of it being right, and all behind it wrong.
	right := []api.Value{id(1), idRow(2), grain.Real(1), grain.Text("a"), grain.Text("b")}
	bad := grain.Row(grain.Num(0))
	number, real, none, text := grain.Num(1), grain.Real(1), grain.Row(), grain.Text("a")
	for place, wrong := range []map[api.Errno][]api.Value{
		{api.ErrForm: {number, real, none, text, grain.Text(""), grain.Text(many(31)), grain.Text(many(33)), grain.Text(many(2000)), grain.Row(id(1))}},
		{
			api.ErrForm:  {number, real, text, id(1), grain.Row(text), grain.Row(number), grain.Row(none), grain.Row(id(1), grain.Text(many(33))), grain.Row(id(2), id(1), text)},
			api.ErrLong:  {idRow(9), grain.Row(slices.Repeat([]api.Value{number}, 9)...), idRow(5000)},
			api.ErrOrder: {grain.Row(id(2), id(1)), grain.Row(id(1), id(1)), grain.Row(id(1), id(3), id(2)), grain.Row(id(3), id(1), id(2))},
		},
		{api.ErrForm: {number, none, text, grain.Text(many(8)), grain.Row(real)}},
		{api.ErrForm: {number, real, none, grain.Row(text)}, api.ErrLong: {grain.Text(many(65)), grain.Text(many(5000))}},
		{api.ErrForm: {number, real, none, grain.Row(text)}, api.ErrLong: {grain.Text(many(1025)), grain.Text(many(1 << 19))}},
	} {
		for want, l := range wrong {
			for _, v := range l {
				one := slices.Clone(right)
				one[place] = v
				refuses(t, object.KCommit, commitOf(one[0], one[1], one[2], one[3], one[4]), want)
				for i := place + 1; i < len(one); i++ {
					one[i] = bad
				}
				refuses(t, object.KCommit, commitOf(one[0], one[1], one[2], one[3], one[4]), want)
				for i := place + 1; i < len(one); i++ {
					one[i] = grain.Text(many(3000))
				}
				refuses(t, object.KCommit, commitOf(one[0], one[1], one[2], one[3], one[4]), want)
			}
		}
	}
}

// P9.5

func TestLinks(t *testing.T) {
	blob, _ := object.PutBlob(object.Blob{Chunks: []api.ID{num(3), num(1), num(3)}, Size: 5})
	tree, _ := object.PutTree(names("a", "b", "c"))
	commit, _ := object.PutCommit(object.Commit{Tree: num(2), Parents: []api.ID{num(1), num(2), num(9)}})
	first, _ := object.PutCommit(object.Commit{Tree: num(2)})
	chunk, _ := object.PutChunk([]byte(many(32)))
	for _, c := range []struct {
		b    []byte
		want []api.ID
	}{
		{blob, []api.ID{num(3), num(1), num(3)}}, {tree, ids(3)}, {commit, []api.ID{num(2), num(1), num(2), num(9)}}, {first, []api.ID{num(2)}}, {chunk, nil},
		{encoded(t, treeOf()), nil}, {encoded(t, blobOf(grain.Row(), grain.Num(3))), nil}, {encoded(t, blobOf(idRow(object.MaxChunks), grain.Num(0))), ids(object.MaxChunks)},
	} {
		if l, e := object.Links(c.b); e != api.OK || !slices.Equal(l, c.want) {
			t.Errorf("Links of %.100x: %x, %v", c.b, l, e)
		}
	}
}

func TestLinksRefuses(t *testing.T) {
	for _, c := range []struct {
		v    api.Value
		want api.Errno
	}{
		{grain.Num(1), api.ErrForm}, {grain.Row(), api.ErrForm}, {grain.Row(grain.Num(0)), api.ErrKind}, {grain.Row(grain.Num(5), grain.Text("")), api.ErrKind},
		{grain.Row(grain.Num(1)), api.ErrForm}, {chunkOf(grain.Num(1)), api.ErrForm}, {chunkOf(grain.Text(many(api.MaxBlob + 1))), api.ErrLong}, {chunkOf(grain.Row()), api.ErrForm},
		{blobOf(idRow(1), grain.Num(api.MaxBlob+1)), api.ErrLong}, {blobOf(idRow(1), grain.Text("")), api.ErrForm}, {blobOf(idRow(object.MaxChunks+1), grain.Num(0)), api.ErrLong},
		{treeOf(entry("a"), entry("a")), api.ErrOrder}, {treeOf(entry("")), api.ErrPath}, {treeOf(entry("a"), grain.Row()), api.ErrForm},
		{commitOf(id(1), grain.Row(id(2), id(1)), grain.Real(0), grain.Text(""), grain.Text("")), api.ErrOrder},
		{commitOf(id(1), idRow(2), grain.Real(0), grain.Text(""), grain.Text(many(1025))), api.ErrLong},
		{commitOf(id(1), idRow(2), grain.Real(0), grain.Text(""), grain.Num(0)), api.ErrForm},
	} {
		if l, e := object.Links(encoded(t, c.v)); e != c.want || len(l) != 0 {
			t.Errorf("Links of %.100v: %x, %v, not %v", c.v, l, e, c.want)
		}
	}
}

// P1: whatever is asked of any bytes ends as the words say.

func TestAllShortBytes(t *testing.T) {
	for n := range 3 {
		for x := range 1 << (8 * n) {
			held(t, []byte{byte(x), byte(x >> 8)}[:n])
		}
	}
	held(t, nil)
}

// anyValue: one that may stand somewhere in a record, or not.
func anyValue(r *rand.Rand) api.Value {
	switch r.Intn(13) {
	case 0:
		return grain.Num(uint64(r.Intn(6)))
	case 1:
		return grain.Num(r.Uint64() >> r.Intn(64))
	case 2:
		return grain.Text([]string{"", "a", "b", ".", "..", "a/b", "\x00"}[r.Intn(7)])
	case 3:
		return grain.Text(many([]int{31, 32, 33, 64, 65, 1024, 1025}[r.Intn(7)]))
	case 4, 5:
		return id(r.Intn(4))
	case 6:
		return grain.Real(r.NormFloat64())
	case 7:
		return grain.Row()
	case 8:
		return idRow(r.Intn(10))
	case 9:
		return grain.Row(anyValue(r), anyValue(r))
	case 10:
		return folder([]string{"a", "b", "c", ""}[r.Intn(4)])
	case 11:
		return entry([]string{"a", "b", "c", "/"}[r.Intn(4)])
	}
	return grain.Row(anyValue(r), anyValue(r), anyValue(r))
}

// changed: a value with one thing within it another one, too many, or away.
func changed(r *rand.Rand, v api.Value) api.Value {
	if v.Kind != grain.List || len(v.List) == 0 || r.Intn(5) == 0 {
		return anyValue(r)
	}
	l := slices.Clone(v.List)
	i := r.Intn(len(l))
	switch r.Intn(8) {
	case 0:
		l = slices.Delete(l, i, i+1)
	case 1:
		l = slices.Insert(l, i, anyValue(r))
	case 2:
		l = append(l, l[i])
	case 3:
		j := r.Intn(len(l))
		l[i], l[j] = l[j], l[i]
	default:
		l[i] = changed(r, l[i])
	}
	return grain.Row(l...)
}

func TestRecordsThatAreChanged(t *testing.T) {
	r := rand.New(rand.NewSource(91))
	some := []api.Value{
		chunkOf(grain.Text("abc")), blobOf(idRow(3), grain.Num(7)), treeOf(entry("a"), folder("b"), entry("c")), treeOf(folder("a"), folder("b")),
		commitOf(id(1), idRow(2), grain.Real(1), grain.Text("ann"), grain.Text("why")), commitOf(id(1), idRow(8), grain.Real(1), grain.Text(many(64)), grain.Text(many(1024))),
	}
	for range 60000 {
		v := some[r.Intn(len(some))]
		for range 1 + r.Intn(3) {
			v = changed(r, v)
		}
		b, e := grain.Encode(v)
		if e != api.OK {
			continue
		}
		held(t, b)
		if r.Intn(4) == 0 {
			b[r.Intn(len(b))] ^= 1 << r.Intn(8)
			held(t, b)
		}
		if t.Failed() {
			return
		}
	}
}

func TestLongBytesEnd(t *testing.T) {
	most := grain.Row(make([]api.Value, 1<<20-16)...)
	for _, v := range []api.Value{chunkOf(most), treeOf(most), commitOf(id(1), grain.Row(), grain.Real(0), grain.Text(""), grain.Text(many(1<<20-100)))} {
		held(t, encoded(t, v))
	}
	for _, s := range []string{strings.Repeat("\x07", 1<<20), strings.Repeat("\x0b\x04", 1<<19), many(1 << 20), many(1 << 22)} {
		held(t, []byte(s))
	}
}

// P2

// roomy: bytes with more bytes behind them.
func roomy(b []byte) []byte { return append(slices.Clone(b), "room"...)[:len(b)] }

func TestRecordsAreLeftAsTheyAre(t *testing.T) {
	for kind, l := range just() {
		for _, v := range l {
			b := roomy(encoded(t, v))
			before := slices.Clone(b[:len(b)+4])
			x, _, _ := get(kind, b)
			y, _, _ := get(kind, b)
			links, _ := object.Links(b)
			object.Kind(b)
			object.Name(b)
			if !bytes.Equal(b[:len(b)+4], before) {
				t.Fatalf("a record of kind %d was changed", kind)
			}
			keep := slices.Clone(links)
			spoil(x)
			if !bytes.Equal(b[:len(b)+4], before) || !slices.Equal(links, keep) {
				t.Errorf("an answer shares memory with a record of kind %d, or with its links", kind)
			}
			for i := range links[:cap(links)] {
				links[:cap(links)][i] = num(77)
			}
			clear(b[:cap(b)])
			if again, e := put(y); e != api.OK || !bytes.Equal(again, before[:len(b)]) {
				t.Errorf("two answers of kind %d share memory, or one keeps what was handed in", kind)
			}
		}
	}
}

// spoil writes all over an answer, its spare room too.
func spoil(x any) {
	switch x := x.(type) {
	case []byte:
		x = x[:cap(x)]
		for i := range x {
			x[i]++
		}
	case object.Blob:
		spoilIDs(x.Chunks)
	case []object.Entry:
		x = x[:cap(x)]
		for i := range x {
			x[i].ID[0]++
			x[i].Name = "spoiled"
		}
	case object.Commit:
		spoilIDs(x.Parents)
	}
}

func spoilIDs(l []api.ID) {
	l = l[:cap(l)]
	for i := range l {
		l[i][0]++
	}
}

func TestValuesAreLeftAsTheyAre(t *testing.T) {
	chunk := roomy([]byte("chunk"))
	chunks, parents := append(ids(3), num(9))[:3], append(ids(3), num(9))[:3]
	tree := append(names("a", "b"), object.Entry{Name: "room", Stamp: 4})[:2]
	tree[1].Stamp = 5
	for _, x := range []any{chunk, object.Blob{Chunks: chunks, Size: 4}, tree, object.Commit{Parents: parents, Stamp: 1, Author: "a"}} {
		b, e := put(x)
		c, _ := put(x)
		if e != api.OK || !bytes.Equal(b, c) {
			t.Fatalf("%v", e)
		}
		for i := range b[:cap(b)] {
			b[:cap(b)][i]++
		}
		if d, _ := put(x); !bytes.Equal(c, d) {
			t.Errorf("a record shares memory with another one, or with %v", x)
		}
		d := slices.Clone(c)
		spoil(x)
		if !bytes.Equal(c, d) {
			t.Errorf("a record shares memory with %v", x)
		}
	}
}

func TestPutLeavesItsSpareRoom(t *testing.T) {
	chunk := roomy([]byte("chunk"))
	chunks, parents := append(ids(3), num(9))[:3], append(ids(3), num(9))[:3]
	tree := append(names("a", "b"), object.Entry{Name: "room", Stamp: 4})[:2]
	for _, x := range []any{chunk, object.Blob{Chunks: chunks}, tree, object.Commit{Parents: parents}} {
		if _, e := put(x); e != api.OK {
			t.Fatal(e)
		}
	}
	wrong := append(names("b", "a"), object.Entry{Name: "room"})[:2]
	object.PutTree(wrong)
	fall := append([]api.ID{num(2), num(1)}, num(9))[:2]
	object.PutCommit(object.Commit{Parents: fall})
	if string(chunk[:9]) != "chunkroom" || !slices.Equal(chunks[:4], append(ids(3), num(9))) || !slices.Equal(parents[:4], append(ids(3), num(9))) {
		t.Error("a list was changed")
	}
	if !reflect.DeepEqual(tree[:3], append(names("a", "b"), object.Entry{Name: "room", Stamp: 4})) || !reflect.DeepEqual(wrong[:3], append(names("b", "a"), object.Entry{Name: "room"})) {
		t.Error("a tree was changed")
	}
	if !slices.Equal(fall[:3], []api.ID{num(2), num(1), num(9)}) {
		t.Error("parents that don't rise were changed")
	}
}
