package refs_test

import (
	"maps"
	"math/rand"
	"slices"
	"strconv"
	"strings"
	"testing"

	"towline/api"
	"towline/path"
	"towline/refs"
	"towline/store"
	"towline/vfs"
)

var zero api.ID

// disk: a file system with room for so many bytes.
func disk(t *testing.T, room int) *vfs.FS {
	t.Helper()
	fs, e := vfs.New(room)
	if e != api.OK {
		t.Fatalf("vfs.New: %v", e)
	}
	return fs
}

// lay: a file with these bytes, durable.
func lay(t *testing.T, fs *vfs.FS, name, text string) {
	t.Helper()
	if fs.Create(name) != api.OK || fs.Append(name, []byte(text)) != api.OK || fs.Sync(name) != api.OK || fs.Flush() != api.OK {
		t.Fatalf("no file %s with %d bytes", name, len(text))
	}
}

// leave: just so many bytes are left.
func leave(t *testing.T, fs *vfs.FS, left int) {
	t.Helper()
	lay(t, fs, "other", strings.Repeat("o", fs.Left()-left))
}

// show: all that a file system tells.
func show(fs *vfs.FS) string {
	text := strconv.Itoa(fs.Steps()) + " steps"
	for _, name := range fs.List() {
		b, _ := fs.Read(name)
		text += " " + name + "=" + strconv.Quote(string(b))
	}
	return text
}

// id: one of which the last byte is n, and the first ones are unlike.
func id(n int) api.ID {
	return api.ID{0: byte(n * 77), 1: ' ', 2: '\n', 31: byte(n)}
}

// opened: the names that lie there; nothing changes.
func opened(t *testing.T, fs *vfs.FS) *refs.Refs {
	t.Helper()
	was := show(fs)
	r, e := refs.Open(fs)
	if e != api.OK || r == nil {
		t.Fatalf("Open: %v", e)
	}
	if now := show(fs); now != was {
		t.Fatalf("Open: %s became %s", was, now)
	}
	return r
}

func set(t *testing.T, r *refs.Refs, name string, old, id api.ID) {
	t.Helper()
	if e := r.Set(name, old, id); e != api.OK {
		t.Fatalf("Set(%q, %x, %x): %v", name, old, id, e)
	}
}

// all: what the names mean.
func all(t *testing.T, r *refs.Refs) map[string]api.ID {
	t.Helper()
	names := map[string]api.ID{}
	l, ids := r.List(), r.IDs()
	if len(l) != len(ids) || !slices.IsSorted(l) {
		t.Fatalf("List %q, %d IDs", l, len(ids))
	}
	for i, name := range l {
		got, e := r.Get(name)
		if e != api.OK || got != ids[i] || got == zero {
			t.Fatalf("Get(%q): %x %v, not %x", name, got, e, ids[i])
		}
		names[name] = got
	}
	if len(names) != len(l) {
		t.Fatalf("List tells one twice: %q", l)
	}
	return names
}

// mean: just these names mean what they are to mean.
func mean(t *testing.T, r *refs.Refs, want map[string]api.ID) {
	t.Helper()
	if got := all(t, r); !maps.Equal(got, want) {
		t.Fatalf("names %v, not %v", got, want)
	}
}

// refuses: a Set has that error, and changes nothing.
func refuses(t *testing.T, fs *vfs.FS, r *refs.Refs, name string, old, id api.ID, want api.Errno) {
	t.Helper()
	was, meant := show(fs), all(t, r)
	if e := r.Set(name, old, id); e != want {
		t.Errorf("Set(%q, %x, %x): %v, not %v", name, old, id, e, want)
	}
	if now := show(fs); now != was {
		t.Errorf("Set(%q): %s became %s", name, was, now)
	}
	mean(t, r, meant)
}

// P17.1

func TestOpenOfNone(t *testing.T) {
	fs := disk(t, 0)
	fs.Stop(0)
	mean(t, opened(t, fs), nil)
	fs = disk(t, 10)
	lay(t, fs, "ref", "alone")
	mean(t, opened(t, fs), nil)
}

func TestGetListAndIDs(t *testing.T) {
	fs := disk(t, 100000)
	r := opened(t, fs)
	names := []string{"A", "a", "a b", "a.b", "a/b", "aa", "b", "b ", "é", "\xff"}
	want := map[string]api.ID{}
	for _, i := range rand.New(rand.NewSource(1)).Perm(len(names)) {
		if got, e := r.Get(names[i]); e != api.ErrMissing || got != zero {
			t.Errorf("Get(%q): %x %v", names[i], got, e)
		}
		set(t, r, names[i], zero, id(i+1))
		want[names[i]] = id(i + 1)
		mean(t, r, want)
		mean(t, opened(t, fs), want)
	}
	if l := r.List(); !slices.Equal(l, names) {
		t.Errorf("List %q", l)
	}
	for i, got := range r.IDs() {
		if got != id(i+1) {
			t.Errorf("the id of %q is %x", names[i], got)
		}
	}
	for _, name := range []string{"", "c", "a/", "/a", "a//b", "B", " ", strings.Repeat("a", 1000)} {
		if got, e := r.Get(name); e != api.ErrMissing || got != zero {
			t.Errorf("Get(%q): %x %v", name, got, e)
		}
	}
}

func TestTwoNamesMayMeanOneRecord(t *testing.T) {
	fs := disk(t, 100000)
	r := opened(t, fs)
	set(t, r, "b", zero, id(1))
	set(t, r, "a", zero, id(1))
	set(t, r, "a/b", zero, id(1))
	if ids := opened(t, fs).IDs(); !slices.Equal(ids, []api.ID{id(1), id(1), id(1)}) {
		t.Errorf("IDs %x", ids)
	}
}

// P17.2

func TestSet(t *testing.T) {
	fs := disk(t, 100000)
	r := opened(t, fs)
	set(t, r, "heads/a", zero, id(1))
	set(t, r, "heads/a", id(1), id(2))
	mean(t, r, map[string]api.ID{"heads/a": id(2)})
	set(t, r, "b", zero, id(1))
	set(t, r, "heads/a", id(2), zero)
	mean(t, r, map[string]api.ID{"b": id(1)})
	set(t, r, "c", zero, zero)
	set(t, r, "b", id(1), id(1))
	mean(t, r, map[string]api.ID{"b": id(1)})
	set(t, r, "b", id(1), zero)
	mean(t, r, nil)
	mean(t, opened(t, fs), nil)
	set(t, r, "b", zero, id(3))
	fs.Crash(0, 0)
	mean(t, opened(t, fs), map[string]api.ID{"b": id(3)})
}

func TestSetOfEachIDAsItIs(t *testing.T) {
	fs := disk(t, 100000)
	r := opened(t, fs)
	old := zero
	for i := range 256 {
		var next api.ID
		next[i%32], next[31-i%32] = byte(i), byte(255-i)
		set(t, r, "a", old, next)
		mean(t, opened(t, fs), map[string]api.ID{"a": next})
		old = next
	}
}

func TestSetOfWrongNames(t *testing.T) {
	fs := disk(t, 100000)
	r := opened(t, fs)
	set(t, r, "a", zero, id(1))
	fs.Stop(0)
	for name, want := range map[string]api.Errno{
		"": api.ErrPath, ".": api.ErrPath, "..": api.ErrPath, "a//b": api.ErrPath, "/a": api.ErrPath, "a/": api.ErrPath, "a\n": api.ErrPath, "a\x7f": api.ErrPath,
		strings.Repeat("n", 65): api.ErrPath, strings.Repeat("n", 256): api.ErrLong, strings.Repeat("n/", 16) + "n": api.ErrLong,
	} {
		if path.Check(name) != want {
			t.Fatalf("Check(%q): not %v", name, want)
		}
		refuses(t, fs, r, name, zero, id(1), want)
		refuses(t, fs, r, name, id(1), id(2), want)
		refuses(t, fs, r, name, zero, zero, want)
	}
}

func TestSetOfWhatWasMoved(t *testing.T) {
	fs := disk(t, 100000)
	r := opened(t, fs)
	set(t, r, "a", zero, id(1))
	leave(t, fs, 0)
	fs.Stop(0)
	last := id(1)
	last[31]++
	for _, old := range []api.ID{zero, id(2), last} {
		refuses(t, fs, r, "a", old, id(3), api.ErrMoved)
		refuses(t, fs, r, "a", old, id(1), api.ErrMoved)
		refuses(t, fs, r, "a", old, zero, api.ErrMoved)
	}
	for _, name := range []string{"b", "A", "a/b"} {
		refuses(t, fs, r, name, id(1), id(3), api.ErrMoved)
		refuses(t, fs, r, name, id(1), zero, api.ErrMoved)
	}
}

// longName: a right name that is as long as one may be.
func longName(i int) string {
	return strings.Repeat(strings.Repeat("n", 63)+"/", 3) + strings.Repeat("n", 60) + strconv.Itoa(100+i)
}

func TestMostNames(t *testing.T) {
	fs := disk(t, 100000)
	r := opened(t, fs)
	want := map[string]api.ID{}
	for i := range refs.MaxRefs {
		if path.Check(longName(i)) != api.OK || len(longName(i)) != api.MaxPath {
			t.Fatalf("%q isn't the longest name", longName(i))
		}
		// Also where just 30000 bytes are left, there is room.
		f := fs.Fork()
		leave(t, f, 30000)
		set(t, opened(t, f), longName(i), zero, id(i+1))
		set(t, r, longName(i), zero, id(i+1))
		want[longName(i)] = id(i + 1)
	}
	mean(t, r, want)
	refuses(t, fs, r, "a", zero, id(1), api.ErrFull)
	refuses(t, fs, r, "a", id(1), id(2), api.ErrMoved)
	refuses(t, fs, r, "a//b", zero, id(1), api.ErrPath)
	set(t, r, "a", zero, zero)
	set(t, r, longName(0), id(1), id(99))
	set(t, r, longName(1), id(2), id(2))
	fs.Stop(0)
	refuses(t, fs, r, "a", zero, id(1), api.ErrFull)
	fs.Crash(0, 0)
	r = opened(t, fs)
	refuses(t, fs, r, "a", zero, id(1), api.ErrFull)
	set(t, r, longName(0), id(99), zero)
	set(t, r, "a", zero, id(1))
	refuses(t, fs, r, longName(0), zero, id(1), api.ErrFull)
	delete(want, longName(0))
	want["a"] = id(1)
	mean(t, opened(t, fs), want)
}

func TestSetNeedsRoom(t *testing.T) {
	for left := range 300 {
		for _, to := range []api.ID{id(2), zero} {
			fs := disk(t, 1000)
			r := opened(t, fs)
			set(t, r, "a", zero, id(1))
			set(t, r, "b", zero, id(1))
			leave(t, fs, left)
			f := fs.Fork()
			if e := opened(t, f).Set("a", id(1), to); e == api.OK {
				set(t, r, "a", id(1), to)
				fs.Crash(0, 0)
				r = opened(t, fs)
				if got, _ := r.Get("a"); got != to {
					t.Errorf("a means %x, not %x", got, to)
				}
				continue
			}
			refuses(t, fs, r, "a", id(1), to, api.ErrFull)
			fs.Stop(0)
			refuses(t, fs, r, "a", id(1), to, api.ErrFull)
			if left > 200 {
				t.Fatalf("%d bytes are too few", left)
			}
		}
	}
}

func TestSetWithoutPower(t *testing.T) {
	fs := disk(t, 10000)
	r := opened(t, fs)
	set(t, r, "a", zero, id(1))
	fs.Stop(0)
	refuses(t, fs, r, "a", id(1), id(2), api.ErrCut)
	refuses(t, fs, r, "a", id(1), zero, api.ErrCut)
	refuses(t, fs, r, "b", zero, id(2), api.ErrCut)
	mean(t, opened(t, fs), map[string]api.ID{"a": id(1)})
}

// P17.3

func TestSetIsDurable(t *testing.T) {
	fs := disk(t, 100000)
	r := opened(t, fs)
	want := map[string]api.ID{}
	for i := range 20 {
		set(t, r, strconv.Itoa(i), zero, id(i+1))
		want[strconv.Itoa(i)] = id(i + 1)
		fs.Crash(0, 0)
		if i%2 == 0 {
			r = opened(t, fs)
		}
		mean(t, r, want)
		mean(t, opened(t, fs), want)
	}
}

func TestSetCutAnywhere(t *testing.T) {
	was := map[string]api.ID{"a": id(1), "a/b": id(2), "c": id(3)}
	for _, x := range []struct {
		name    string
		old, id api.ID
	}{{"a", id(1), id(4)}, {"a/b", id(2), zero}, {"d", zero, id(5)}, {"d", zero, zero}, {"c", id(3), id(3)}} {
		is := maps.Clone(was)
		is[x.name] = x.id
		if x.id == zero {
			delete(is, x.name)
		}
		done := false
		for stop := 0; !done; stop++ {
			for acts := range 6 {
				for _, n := range []int{-1, 0, 1, 10, 66, 67, 68, 200, 1000} {
					fs := disk(t, 10000)
					lay(t, fs, "other", "alone")
					r := opened(t, fs)
					for _, name := range slices.Sorted(maps.Keys(was)) {
						set(t, r, name, zero, was[name])
					}
					fs.Stop(stop)
					e := r.Set(x.name, x.old, x.id)
					if e != api.OK && e != api.ErrCut {
						t.Fatalf("Set: %v", e)
					}
					done = e == api.OK
					fs.Crash(acts, n)
					r = opened(t, fs)
					got := all(t, r)
					if !maps.Equal(got, is) && (done || !maps.Equal(got, was)) {
						t.Fatalf("Set(%q, %x) has %v, and the names are %v", x.name, x.id, e, got)
					}
					if b, _ := fs.Read("other"); string(b) != "alone" {
						t.Fatalf("another file is %q", b)
					}
					set(t, r, "e", zero, id(6))
					got["e"] = id(6)
					fs.Crash(0, 0)
					mean(t, opened(t, fs), got)
				}
			}
		}
	}
}

func TestTheFirstSetCutAnywhere(t *testing.T) {
	done := false
	for stop := 0; !done; stop++ {
		for acts := range 6 {
			for _, n := range []int{0, 1, 67, 1000} {
				fs := disk(t, 10000)
				r := opened(t, fs)
				fs.Stop(stop)
				e := r.Set("a", zero, id(1))
				done = e == api.OK
				fs.Crash(acts, n)
				r = opened(t, fs)
				got := all(t, r)
				if want := map[string]api.ID{"a": id(1)}; !maps.Equal(got, want) && (done || len(got) > 0) {
					t.Fatalf("Set has %v, and the names are %v", e, got)
				}
			}
		}
	}
}

func TestNamesAndAStoreInOneFileSystem(t *testing.T) {
	fs := disk(t, 100000)
	s, e := store.Open(fs)
	if e != api.OK {
		t.Fatalf("store.Open: %v", e)
	}
	r := opened(t, fs)
	a, _ := s.Put([]byte("abc"))
	s.Sync()
	set(t, r, "packs", zero, a)
	for _, name := range fs.List() {
		if !strings.HasPrefix(name, "pack") && !strings.HasPrefix(name, "refs") {
			t.Errorf("a file %q", name)
		}
	}
	fs.Crash(0, 0)
	if s, e = store.Open(fs); e != api.OK || !s.Has(a) || s.Keep() != api.OK {
		t.Errorf("store.Open: %v", e)
	}
	mean(t, opened(t, fs), map[string]api.ID{"packs": a})
}

// All of it, held against a reckoning from the words

func TestManyCallsAgainstTheWords(t *testing.T) {
	rnd := rand.New(rand.NewSource(29))
	names := []string{"a", "b", "a/b", "a//b", "", "heads/x y", "\xff", strings.Repeat("n", 64), strings.Repeat("n", 65)}
	for range 300 {
		fs := disk(t, 200+rnd.Intn(2000))
		r := opened(t, fs)
		want := map[string]api.ID{}
		for range 60 {
			name := names[rnd.Intn(len(names))]
			old, next := want[name], zero
			if rnd.Intn(8) == 0 {
				old = id(rnd.Intn(3) + 1)
			}
			if rnd.Intn(4) > 0 {
				next = id(rnd.Intn(3) + 1)
			}
			if rnd.Intn(10) == 0 {
				fs.Stop(rnd.Intn(6))
			}
			changed := maps.Clone(want)
			changed[name] = next
			if next == zero {
				delete(changed, name)
			}
			was := show(fs)
			e := r.Set(name, old, next)
			switch wrong := path.Check(name); {
			case wrong != api.OK && e != wrong, wrong == api.OK && old != want[name] && e != api.ErrMoved, wrong == api.OK && old == want[name] && e != api.OK && e != api.ErrFull && e != api.ErrCut:
				t.Fatalf("Set(%q, %x, %x): %v", name, old, next, e)
			case e == api.OK:
				want = changed
			case e != api.ErrCut && show(fs) != was:
				t.Fatalf("Set(%q, %x, %x): %v, and %s became %s", name, old, next, e, was, show(fs))
			}
			if e == api.ErrCut || rnd.Intn(10) == 0 {
				fs.Crash(rnd.Intn(5), rnd.Intn(200))
				r = opened(t, fs)
				if e == api.ErrCut && maps.Equal(all(t, r), changed) {
					want = changed
				}
			}
			mean(t, r, want)
		}
	}
}

// P1

func TestOpenOfWhatNoNamesLaidEnds(t *testing.T) {
	for _, text := range []string{"", "\n", " ", "x", strings.Repeat("0", 64), strings.Repeat("0", 63) + "1 a", strings.Repeat("0", 64) + " a\n\n", strings.Repeat("g", 64) + " a\n", "\xff\n\x00"} {
		fs := disk(t, 1000)
		lay(t, fs, "refs", text)
		r, e := refs.Open(fs)
		if (e == api.OK) != (r != nil) {
			t.Fatalf("Open of %q: %v", text, e)
		}
		if r != nil {
			r.List()
			r.IDs()
			r.Set("a", zero, id(1))
		}
	}
}

func TestCallsBehindACutEnd(t *testing.T) {
	for stop := range 8 {
		fs := disk(t, 1000)
		r := opened(t, fs)
		fs.Stop(stop)
		for i := range 3 {
			r.Set("a", zero, id(1))
			r.Set("a", id(1), zero)
			r.Get("a")
			r.List()
			r.IDs()
			fs.Crash(i, i)
		}
	}
}

// P2

func TestListAndIDsShareNothing(t *testing.T) {
	fs := disk(t, 10000)
	r := opened(t, fs)
	want := map[string]api.ID{}
	for i := range 5 {
		set(t, r, strconv.Itoa(i), zero, id(i+1))
		want[strconv.Itoa(i)] = id(i + 1)
	}
	l, ids := r.List(), r.IDs()
	again, idsAgain := r.List(), r.IDs()
	clear(l[:cap(l)])
	clear(ids[:cap(ids)])
	if again[4] != "4" || idsAgain[4] != id(5) {
		t.Errorf("other answers are %q and %x", again, idsAgain)
	}
	mean(t, r, want)
	mean(t, opened(t, fs), want)
}

func TestTwoForksShareNothing(t *testing.T) {
	fs := disk(t, 10000)
	r := opened(t, fs)
	set(t, r, "a", zero, id(1))
	f := fs.Fork()
	n := opened(t, f)
	set(t, n, "a", id(1), id(2))
	set(t, r, "b", zero, id(3))
	mean(t, r, map[string]api.ID{"a": id(1), "b": id(3)})
	mean(t, n, map[string]api.ID{"a": id(2)})
}
