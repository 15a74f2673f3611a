package pack_test

import (
	"bytes"
	"crypto/sha256"
	"encoding/binary"
	"math/rand"
	"slices"
	"strings"
	"testing"

	"towline/api"
	"towline/pack"
	"towline/vfs"
)

const head = 12

// sum: the id of some text.
func sum(text string) api.ID { return api.ID(sha256.Sum256([]byte(text))) }

// frames: the frames of some records.
func frames(records ...string) string {
	var b []byte
	for _, r := range records {
		id := sum(r)
		b = binary.BigEndian.AppendUint32(b, uint32(len(r)))
		b = append(b, id[:8]...)
		b = append(b, r...)
	}
	return string(b)
}

// disk: a file system with room for so many bytes.
func disk(t *testing.T, room int) *vfs.FS {
	t.Helper()
	fs, e := vfs.New(room)
	if e != api.OK {
		t.Fatalf("vfs.New: %v", e)
	}
	return fs
}

// lay: a file with these bytes, all of them durable.
func lay(t *testing.T, fs *vfs.FS, name, text string) {
	t.Helper()
	if fs.Create(name) != api.OK || fs.Append(name, []byte(text)) != api.OK || fs.Sync(name) != api.OK || fs.Flush() != api.OK {
		t.Fatalf("no file %s with %d bytes", name, len(text))
	}
}

// replace: other bytes in a file's place.
func replace(t *testing.T, fs *vfs.FS, name, text string) {
	t.Helper()
	if e := fs.Remove(name); e != api.OK {
		t.Fatalf("Remove: %v", e)
	}
	lay(t, fs, name, text)
}

func content(t *testing.T, fs *vfs.FS, name string) string {
	t.Helper()
	b, e := fs.Read(name)
	if e != api.OK {
		t.Fatalf("Read: %v", e)
	}
	return string(b)
}

// created: a new pack with these records.
func created(t *testing.T, fs *vfs.FS, name string, records ...string) *pack.Pack {
	t.Helper()
	p, e := pack.Create(fs, name)
	if e != api.OK || p == nil {
		t.Fatalf("Create: %v", e)
	}
	add(t, p, records...)
	return p
}

func opened(t *testing.T, fs *vfs.FS, name string) *pack.Pack {
	t.Helper()
	p, e := pack.Open(fs, name)
	if e != api.OK || p == nil {
		t.Fatalf("Open: %v", e)
	}
	return p
}

func add(t *testing.T, p *pack.Pack, records ...string) {
	t.Helper()
	for _, r := range records {
		if id, e := p.Add([]byte(r)); e != api.OK || id != sum(r) {
			t.Fatalf("Add of %d bytes: %x %v", len(r), id, e)
		}
	}
}

// notAdded: Add has that error, and changes nothing.
func notAdded(t *testing.T, fs *vfs.FS, p *pack.Pack, record string, want api.Errno) {
	t.Helper()
	ids, has, size, steps, used := p.IDs(), p.Has(sum(record)), p.Size(), fs.Steps(), fs.Used()
	if id, e := p.Add([]byte(record)); e != want || id != (api.ID{}) {
		t.Errorf("Add of %d bytes: %x %v, not %v", len(record), id, e, want)
	}
	if !slices.Equal(p.IDs(), ids) || p.Has(sum(record)) != has || p.Size() != size || fs.Steps() != steps || fs.Used() != used {
		t.Errorf("Add of %d bytes, which is refused, has changed something", len(record))
	}
}

// holds: the pack has just these records, whose bytes it gives.
func holds(t *testing.T, p *pack.Pack, records ...string) {
	t.Helper()
	var want []api.ID
	for _, r := range records {
		want = append(want, sum(r))
		if b, e := p.Get(sum(r)); e != api.OK || string(b) != r || !p.Has(sum(r)) {
			t.Errorf("Get of %d bytes: %d %v", len(r), len(b), e)
		}
	}
	if ids := p.IDs(); !slices.Equal(ids, want) {
		t.Errorf("IDs %x, not %x", ids, want)
	}
}

func notGot(t *testing.T, p *pack.Pack, id api.ID, want api.Errno) {
	t.Helper()
	if b, e := p.Get(id); e != want || b != nil {
		t.Errorf("Get: %q %v, not %v", b, e, want)
	}
}

// scans: Scan tells these records, and how many bytes their frames have.
func scans(t *testing.T, text string, want ...string) {
	t.Helper()
	size := 0
	for _, r := range want {
		size += head + len(r)
	}
	records, n := pack.Scan([]byte(text))
	same := func(b []byte, s string) bool { return string(b) == s }
	if n != size || !slices.EqualFunc(records, want, same) {
		t.Errorf("Scan of %d bytes: %d records, %d bytes, not %d and %d", len(text), len(records), n, len(want), size)
	}
}

// P15.1

func TestAFrameIsLengthSumAndBytes(t *testing.T) {
	scans(t, "\x00\x00\x00\x03\xba\x78\x16\xbf\x8f\x01\xcf\xeaabc", "abc")
	scans(t, "\x00\x00\x00\x00\xe3\xb0\xc4\x42\x98\xfc\x1c\x14", "")
	for _, r := range []string{"", "abc", strings.Repeat("x", 255), strings.Repeat("x", 256), strings.Repeat("x", 65536), strings.Repeat("x", 70000)} {
		fs := disk(t, 100000)
		created(t, fs, "p", r)
		if content(t, fs, "p") != frames(r) {
			t.Errorf("the frame of %d bytes is another", len(r))
		}
	}
}

func TestScan(t *testing.T) {
	if records, n := pack.Scan(nil); len(records) != 0 || n != 0 {
		t.Errorf("Scan of nothing: %d %d", len(records), n)
	}
	scans(t, frames("a"), "a")
	scans(t, frames("", "a", "", "bc", "a"), "", "a", "", "bc", "a")
	scans(t, frames(frames("a", "b"), "\x00\xff"), frames("a", "b"), "\x00\xff")
}

func TestScanEndsWhereAFrameIsTorn(t *testing.T) {
	text := frames("abc", "", "xy")
	ends := []int{0, 15, 27, 41}
	for n := range len(text) + 1 {
		var want []string
		for i, r := range []string{"abc", "", "xy"} {
			if n >= ends[i+1] {
				want = append(want, r)
			}
		}
		scans(t, text[:n], want...)
	}
}

func TestScanEndsWhereAByteOfAFrameIsWrong(t *testing.T) {
	text := frames("abc", "xyz", "q")
	for at := 15; at < 30; at++ {
		for change := 1; change < 256; change++ {
			b := []byte(text)
			b[at] ^= byte(change)
			scans(t, string(b), "abc")
		}
	}
}

func TestScanOfLengths(t *testing.T) {
	most := strings.Repeat("m", pack.MaxRecord)
	scans(t, frames("a", most, "b"), "a", most, "b")
	scans(t, frames("a", most+"m", "b"), "a")
	for _, length := range []uint32{4, 5, 15, 16, 255, 1 << 8, 1 << 16, pack.MaxRecord, pack.MaxRecord + 1, 1 << 24, 1 << 31, 1<<32 - 1} {
		b := []byte(frames("abc"))
		binary.BigEndian.PutUint32(b, length)
		scans(t, string(b))
		scans(t, frames("q")+string(b), "q")
	}
}

func TestScanTakesOnlyWhatIsLeftBehindTheHead(t *testing.T) {
	// A length that fits in all that is left, but not behind the head.
	record := "abcdefgh"
	for n := range head {
		whole := frames(record)
		scans(t, whole[:len(whole)-1-n%len(record)])
	}
}

// scanOf: Scan as the words say.
func scanOf(b []byte) ([][]byte, int) {
	var records [][]byte
	at := 0
	for len(b)-at >= head {
		length := int64(binary.BigEndian.Uint32(b[at:]))
		if length > pack.MaxRecord || length > int64(len(b)-at-head) {
			break
		}
		record := b[at+head : at+head+int(length)]
		id := sha256.Sum256(record)
		if !bytes.Equal(id[:8], b[at+4:at+12]) {
			break
		}
		records = append(records, record)
		at += head + int(length)
	}
	return records, at
}

func TestManyScansAgainstTheWords(t *testing.T) {
	r := rand.New(rand.NewSource(15))
	for range 20000 {
		var l []string
		for range r.Intn(6) {
			l = append(l, strings.Repeat("q", r.Intn(4))+strings.Repeat("r", r.Intn(3)))
		}
		b := []byte(frames(l...))
		for range r.Intn(3) {
			if len(b) > 0 {
				b[r.Intn(len(b))] ^= byte(1 << r.Intn(8))
			}
		}
		b = b[:len(b)-r.Intn(min(len(b), 20)+1)]
		records, n := pack.Scan(b)
		want, size := scanOf(b)
		if n != size || !slices.EqualFunc(records, want, bytes.Equal) {
			t.Fatalf("Scan(%q): %q %d, not %q %d", b, records, n, want, size)
		}
	}
}

// P15.2

func TestCreate(t *testing.T) {
	fs := disk(t, 100)
	p := created(t, fs, "a/p")
	if p.Name() != "a/p" || p.Size() != 0 || len(p.IDs()) != 0 || content(t, fs, "a/p") != "" {
		t.Errorf("a new pack: %q %d", p.Name(), p.Size())
	}
	if fs.Steps() != 1 {
		t.Errorf("%d steps", fs.Steps())
	}
	for name, want := range map[string]api.Errno{"a/p": api.ErrTwice, "": api.ErrPath, "a//b": api.ErrPath, strings.Repeat("p", 300): api.ErrLong} {
		if p, e := pack.Create(fs, name); e != want || p != nil {
			t.Errorf("Create(%q): %v, not %v", name, e, want)
		}
	}
	fs.Stop(0)
	if p, e := pack.Create(fs, "q"); e != api.ErrCut || p != nil {
		t.Errorf("Create without power: %v", e)
	}
}

func TestOpen(t *testing.T) {
	fs := disk(t, 1000)
	lay(t, fs, "p", frames("abc", "", "xyz"))
	lay(t, fs, "empty", "")
	steps := fs.Steps()
	fs.Stop(0) // to open what is whole needs no step
	p := opened(t, fs, "p")
	holds(t, p, "abc", "", "xyz")
	if p.Name() != "p" || p.Size() != 42 || fs.Steps() != steps {
		t.Errorf("%q, %d bytes, %d steps", p.Name(), p.Size(), fs.Steps()-steps)
	}
	holds(t, opened(t, fs, "empty"))
	for _, name := range []string{"q", "", "a//b", "p/"} {
		if p, e := pack.Open(fs, name); e != api.ErrMissing || p != nil {
			t.Errorf("Open(%q): %v", name, e)
		}
	}
}

func TestOpenCutsOffWhatIsTorn(t *testing.T) {
	for _, torn := range []string{"\x00", frames("q")[:12], frames("pq")[:13], frames(strings.Repeat("m", 100))[:50], "\xff\xff\xff\xff and so on", "x" + frames("q")} {
		fs := disk(t, 1000)
		lay(t, fs, "p", frames("abc", "xyz")+torn)
		steps := fs.Steps()
		p := opened(t, fs, "p")
		holds(t, p, "abc", "xyz")
		if p.Size() != 30 || content(t, fs, "p") != frames("abc", "xyz") || fs.Steps() != steps+1 {
			t.Errorf("%q isn't cut off", torn)
		}
		add(t, p, "r")
		holds(t, p, "abc", "xyz", "r")
		holds(t, opened(t, fs, "p"), "abc", "xyz", "r")
	}
}

func TestOpenTellsCutsError(t *testing.T) {
	fs := disk(t, 1000)
	lay(t, fs, "p", frames("abc")+"torn")
	fs.Stop(0)
	if p, e := pack.Open(fs, "p"); e != api.ErrCut || p != nil {
		t.Errorf("Open without power: %v", e)
	}
	if content(t, fs, "p") != frames("abc")+"torn" {
		t.Error("the file has changed")
	}
}

func TestWhatOpenLeavesIsDurable(t *testing.T) {
	fs := disk(t, 1000)
	p := created(t, fs, "p", "abc")
	fs.Flush()
	fs.Append("p", []byte("torn"))
	p = opened(t, fs, "p")
	fs.Crash(0, 0)
	holds(t, p, "abc")
}

// P15.3

func TestAdd(t *testing.T) {
	fs := disk(t, 1000)
	p := created(t, fs, "p", "abc", "", "xyz")
	if p.Size() != 42 || content(t, fs, "p") != frames("abc", "", "xyz") || fs.Steps() != 4 {
		t.Errorf("%d bytes, %d steps", p.Size(), fs.Steps())
	}
	holds(t, p, "abc", "", "xyz")
	if id, e := p.Add(nil); e != api.OK || id != sum("") {
		t.Errorf("Add of nothing: %x %v", id, e)
	}
	add(t, p, "xyz", "abc")
	holds(t, p, "abc", "", "xyz")
	if p.Size() != 42 || fs.Steps() != 4 {
		t.Errorf("what is there is added again: %d bytes, %d steps", p.Size(), fs.Steps())
	}
	if p.Has(sum("q")) || p.Has(api.ID{}) {
		t.Error("Has of what isn't there")
	}
}

func TestAddOfWhatIsThereNeedsNeitherRoomNorPower(t *testing.T) {
	fs := disk(t, 15)
	p := created(t, fs, "p", "abc")
	fs.Stop(0)
	add(t, p, "abc")
	holds(t, p, "abc")
}

func TestAddTellsAppendsErrors(t *testing.T) {
	fs := disk(t, 44)
	p := created(t, fs, "p", "abc")
	notAdded(t, fs, p, strings.Repeat("x", 18), api.ErrFull)
	fs.Stop(0)
	notAdded(t, fs, p, strings.Repeat("x", 18), api.ErrFull)
	notAdded(t, fs, p, strings.Repeat("x", 17), api.ErrCut)
	fs.Stop(-1)
	add(t, p, strings.Repeat("x", 17))
	notAdded(t, fs, p, "", api.ErrFull)
	holds(t, p, "abc", strings.Repeat("x", 17))
	fs.Remove("p")
	notAdded(t, fs, p, "new", api.ErrMissing)
}

func TestAddOfLongRecords(t *testing.T) {
	fs := disk(t, api.MaxDisk)
	p := created(t, fs, "p")
	most := strings.Repeat("m", pack.MaxRecord)
	notAdded(t, fs, p, most+"m", api.ErrLong)
	add(t, p, most, most[1:], "a")
	holds(t, p, most, most[1:], "a")
	holds(t, opened(t, fs, "p"), most, most[1:], "a")
	fs.Remove("p")
	notAdded(t, fs, p, most+"m", api.ErrLong)
	if pack.MaxRecord != 1<<19 {
		t.Errorf("MaxRecord %d", pack.MaxRecord)
	}
}

func TestAddTellsGetsErrorOfWhatIsThere(t *testing.T) {
	fs := disk(t, 1000)
	p := created(t, fs, "p", "abc", "xyz")
	fs.Cut("p", 20)
	notAdded(t, fs, p, "xyz", api.ErrSum)
	add(t, p, "abc")
	replace(t, fs, "p", strings.Replace(frames("abc", "xyz"), "b", "B", 1))
	notAdded(t, fs, p, "abc", api.ErrSum)
	add(t, p, "xyz")
	fs.Remove("p")
	notAdded(t, fs, p, "abc", api.ErrMissing)
}

func TestSizeIsThatOfTheFile(t *testing.T) {
	fs := disk(t, 1000)
	p := created(t, fs, "p", "abc")
	fs.Flush()
	p.Sync()
	add(t, p, "xyz")
	fs.Crash(0, 5)
	if p.Size() != 20 {
		t.Errorf("Size %d behind a crash", p.Size())
	}
	fs.Remove("p")
	if p.Size() != 0 {
		t.Errorf("Size %d of no file", p.Size())
	}
}

func TestIDsAreToldOnce(t *testing.T) {
	fs := disk(t, 1000)
	lay(t, fs, "p", frames("b", "a", "b", "c", "a", ""))
	p := opened(t, fs, "p")
	holds(t, p, "b", "a", "c", "")
	if p.Size() != 77 {
		t.Errorf("Size %d", p.Size())
	}
	add(t, p, "a", "d")
	holds(t, p, "b", "a", "c", "", "d")
}

func TestSync(t *testing.T) {
	fs := disk(t, 1000)
	p := created(t, fs, "p", "abc")
	if e := fs.Flush(); e != api.OK {
		t.Fatal(e)
	}
	if e := p.Sync(); e != api.OK {
		t.Errorf("Sync: %v", e)
	}
	add(t, p, "xyz")
	fs.Crash(0, 5)
	p = opened(t, fs, "p")
	holds(t, p, "abc")
	if p.Size() != 15 {
		t.Errorf("Size %d", p.Size())
	}
	fs.Stop(0)
	if e := p.Sync(); e != api.ErrCut {
		t.Errorf("Sync without power: %v", e)
	}
	fs.Crash(0, 0)
	fs.Remove("p")
	if e := p.Sync(); e != api.ErrMissing {
		t.Errorf("Sync of no file: %v", e)
	}
}

func TestWhatIsAddedIsNotDurable(t *testing.T) {
	fs := disk(t, 1000)
	created(t, fs, "p", "abc")
	fs.Flush()
	fs.Crash(0, 0)
	holds(t, opened(t, fs, "p"))
}

// P15.4

func TestGet(t *testing.T) {
	fs := disk(t, 1000)
	p := created(t, fs, "p", "abc", "", "xyz")
	notGot(t, p, api.ID{}, api.ErrMissing)
	notGot(t, p, sum("q"), api.ErrMissing)
	id := sum("abc")
	id[31] ^= 1
	notGot(t, p, id, api.ErrMissing)
	if b, e := p.Get(sum("")); e != api.OK || len(b) != 0 {
		t.Errorf("Get of a record without bytes: %q %v", b, e)
	}
	if steps := fs.Steps(); steps != 4 {
		t.Errorf("%d steps", steps)
	}
}

func TestGetLooksAtTheFile(t *testing.T) {
	fs := disk(t, 1000)
	p := created(t, fs, "p", "abc", "", "xyz")
	whole := content(t, fs, "p")
	for n := range len(whole) + 1 {
		replace(t, fs, "p", whole[:n])
		for i, r := range []string{"abc", "", "xyz"} {
			if end := []int{15, 27, 42}[i]; n < end {
				notGot(t, p, sum(r), api.ErrSum)
			} else if b, e := p.Get(sum(r)); e != api.OK || string(b) != r {
				t.Errorf("Get of %q of %d bytes: %q %v", r, n, b, e)
			}
		}
	}
	for _, at := range []int{12, 13, 14} {
		replace(t, fs, "p", whole[:at]+"!"+whole[at+1:])
		notGot(t, p, sum("abc"), api.ErrSum)
		if b, e := p.Get(sum("xyz")); e != api.OK || string(b) != "xyz" {
			t.Errorf("Get of %q: %q %v", "xyz", b, e)
		}
	}
	fs.Remove("p")
	notGot(t, p, sum("abc"), api.ErrMissing)
	notGot(t, p, sum("q"), api.ErrMissing)
	if !p.Has(sum("abc")) || len(p.IDs()) != 3 {
		t.Error("the records aren't known any more")
	}
}

func TestGetLooksAtTheBytesAlone(t *testing.T) {
	fs := disk(t, 1000)
	p := created(t, fs, "p", "abc")
	replace(t, fs, "p", "twelve bytesabc and more")
	holds(t, p, "abc")
}

func TestOfSeveralWithOneSumTheFirstCounts(t *testing.T) {
	fs := disk(t, 1000)
	whole := frames("abc", "q", "abc")
	lay(t, fs, "p", whole)
	p := opened(t, fs, "p")
	holds(t, p, "abc", "q")
	replace(t, fs, "p", whole[:15])
	if b, e := p.Get(sum("abc")); e != api.OK || string(b) != "abc" {
		t.Errorf("Get of the first: %q %v", b, e)
	}
	replace(t, fs, "p", whole[:13]+"!"+whole[14:])
	notGot(t, p, sum("abc"), api.ErrSum)
}

func TestAPackBehindACrash(t *testing.T) {
	fs := disk(t, 1000)
	p := created(t, fs, "p", "abc")
	fs.Flush()
	p.Sync()
	add(t, p, "xyz", "q")
	fs.Crash(0, 5)
	notGot(t, p, sum("xyz"), api.ErrSum)
	notGot(t, p, sum("q"), api.ErrSum)
	notAdded(t, fs, p, "xyz", api.ErrSum)
	add(t, p, "a longer one, that lies where others were", "r")
	for _, r := range []string{"abc", "a longer one, that lies where others were", "r"} {
		if b, e := p.Get(sum(r)); e != api.OK || string(b) != r {
			t.Errorf("Get of %q: %q %v", r, b, e)
		}
	}
	notGot(t, p, sum("xyz"), api.ErrSum)
}

// All of it, held against a reckoning from the words

// kept: a record, and where its bytes begin.
type kept struct {
	text string
	from int
}

// model is what the words tell of a pack in the file p, whose bytes are those that the file system tells.
type model struct {
	fs   *vfs.FS
	list []kept
}

func (m *model) find(text string) (kept, bool) {
	i := slices.IndexFunc(m.list, func(k kept) bool { return k.text == text })
	if i < 0 {
		return kept{}, false
	}
	return m.list[i], true
}

// get: what Get answers of a text's Sum.
func (m *model) get(text string) api.Errno {
	k, has := m.find(text)
	b, e := m.fs.Read("p")
	switch {
	case !has:
		return api.ErrMissing
	case e != api.OK:
		return e
	case len(b) < k.from+len(text) || string(b[k.from:k.from+len(text)]) != text:
		return api.ErrSum
	}
	return api.OK
}

// add: what Add will answer, and what is kept then.
func (m *model) add(text string, power bool) api.Errno {
	if _, has := m.find(text); has {
		return m.get(text)
	}
	b, e := m.fs.Read("p")
	switch {
	case e != api.OK:
		return e
	case len(text)+head > m.fs.Left():
		return api.ErrFull
	case !power:
		return api.ErrCut
	}
	m.list = append(m.list, kept{text, len(b) + head})
	return api.OK
}

// open: what is kept behind Open of a file with these bytes.
func (m *model) open(b []byte) {
	m.list = nil
	records, _ := scanOf(b)
	at := 0
	for _, r := range records {
		if _, has := m.find(string(r)); !has {
			m.list = append(m.list, kept{string(r), at + head})
		}
		at += head + len(r)
	}
}

// look: the pack tells what the model does.
func (m *model) look(t *testing.T, p *pack.Pack) {
	t.Helper()
	var ids []api.ID
	for _, k := range m.list {
		ids = append(ids, sum(k.text))
		b, e := p.Get(sum(k.text))
		if want := m.get(k.text); e != want || e == api.OK && string(b) != k.text || e != api.OK && b != nil {
			t.Fatalf("Get of %q: %q %v, not %v", k.text, b, e, want)
		}
	}
	b, _ := m.fs.Read("p")
	if !slices.Equal(p.IDs(), ids) || p.Size() != len(b) || p.Name() != "p" {
		t.Fatalf("IDs %x, Size %d, Name %q", p.IDs(), p.Size(), p.Name())
	}
}

func TestManyCallsAgainstTheWords(t *testing.T) {
	r := rand.New(rand.NewSource(16))
	for range 600 {
		fs := disk(t, 150+r.Intn(500))
		p := created(t, fs, "p")
		fs.Flush()
		m := &model{fs: fs}
		power := true
		for range 80 {
			text := strings.Repeat("x", r.Intn(4)) + strings.Repeat("y", r.Intn(30))
			switch r.Intn(16) {
			default:
				want := m.add(text, power)
				if id, e := p.Add([]byte(text)); e != want || e == api.OK && id != sum(text) || e != api.OK && id != (api.ID{}) {
					t.Fatalf("Add of %q: %x %v, not %v", text, id, e, want)
				}
			case 0, 1:
				if e := p.Sync(); (e == api.OK) != power {
					t.Fatalf("Sync: %v", e)
				}
			case 2:
				fs.Crash(0, r.Intn(40)-3)
				power = true
			case 3, 4:
				fs.Crash(0, r.Intn(40)-3)
				power = true
				b, _ := fs.Read("p")
				m.open(b)
				p = opened(t, fs, "p")
			case 5:
				if power {
					b, _ := fs.Read("p")
					m.open(b)
					p = opened(t, fs, "p")
				}
			case 6:
				if r.Intn(4) == 0 {
					fs.Stop(0)
					power = false
				}
			}
			m.look(t, p)
		}
	}
}

func TestACrashAtAnyByte(t *testing.T) {
	records := []string{"abc", "", "a longer one", "x", "yy"}
	for durable := range len(records) + 1 {
		for n := range 80 {
			fs := disk(t, 1000)
			p := created(t, fs, "p", records[:durable]...)
			fs.Flush()
			p.Sync()
			add(t, p, records[durable:]...)
			fs.Crash(0, n)
			left, want := n, durable
			for _, r := range records[durable:] {
				if left -= head + len(r); left < 0 {
					break
				}
				want++
			}
			p = opened(t, fs, "p")
			holds(t, p, records[:want]...)
			if content(t, fs, "p") != frames(records[:want]...) {
				t.Errorf("%d durable, %d bytes left: the file has %d bytes", durable, n, p.Size())
			}
		}
	}
}

// P1

func TestManyRecordsEnd(t *testing.T) {
	fs := disk(t, api.MaxDisk)
	var l []string
	for i := range 200000 {
		l = append(l, string(binary.BigEndian.AppendUint32(nil, uint32(i))))
	}
	lay(t, fs, "p", frames(l...))
	p := opened(t, fs, "p")
	if len(p.IDs()) != len(l) {
		t.Errorf("%d records", len(p.IDs()))
	}
	for _, i := range []int{0, 1, 77777, 199999} {
		if b, e := p.Get(sum(l[i])); e != api.OK || string(b) != l[i] {
			t.Errorf("Get of %d: %v", i, e)
		}
	}
	fs = disk(t, api.MaxDisk)
	holds(t, created(t, fs, "p", l[:1500]...), l[:1500]...)
}

// P2

// over: writes over a list and its spare room.
func over(b []byte) {
	b = b[:cap(b)]
	for i := range b {
		b[i] ^= 0xff
	}
}

func TestScanSharesNothing(t *testing.T) {
	text := frames("abc", "", "xyz")
	b := []byte(text + "room")[:len(text)]
	records, _ := pack.Scan(b)
	if string(b[:len(b)+4]) != text+"room" {
		t.Error("what is handed in was changed")
	}
	over(b)
	for i, want := range []string{"abc", "", "xyz"} {
		if string(records[i]) != want {
			t.Errorf("record %d became %q", i, records[i])
		}
		over(records[i])
	}
	again, _ := pack.Scan([]byte(text))
	if string(again[0]) != "abc" {
		t.Errorf("another answer is %q", again[0])
	}
}

func TestAddAndGetShareNothing(t *testing.T) {
	fs := disk(t, 1000)
	p := created(t, fs, "p", "q")
	data := []byte("abcroom")[:3]
	id, _ := p.Add(data)
	add(t, p, "xyz")
	if string(data[:7]) != "abcroom" {
		t.Errorf("what is handed in became %q", data[:7])
	}
	over(data)
	first, _ := p.Get(id)
	second, _ := p.Get(id)
	over(first)
	if string(second) != "abc" {
		t.Errorf("another answer is %q", second)
	}
	holds(t, p, "q", "abc", "xyz")
}

func TestIDsShareNothing(t *testing.T) {
	fs := disk(t, 1000)
	p := created(t, fs, "p", "a", "b", "c")
	first, second := p.IDs(), p.IDs()
	first = first[:cap(first)]
	for i := range first {
		first[i] = api.ID{}
	}
	add(t, p, "d", "e")
	if !slices.Equal(second, []api.ID{sum("a"), sum("b"), sum("c")}) {
		t.Errorf("another answer is %x", second)
	}
	holds(t, p, "a", "b", "c", "d", "e")
}

func TestTwoPacksShareNothing(t *testing.T) {
	fs := disk(t, 1000)
	p, q := created(t, fs, "p", "a", "b"), created(t, fs, "q", "b", "c")
	add(t, p, "c")
	holds(t, p, "a", "b", "c")
	holds(t, q, "b", "c")
}
