package store_test

import (
	"maps"
	"math/rand"
	"slices"
	"strconv"
	"strings"
	"testing"

	"towline/api"
	"towline/store"
	"towline/vfs"
)

// set is some records.
type set map[string]bool

func (s set) with(l ...string) set {
	out := set{}
	for r := range s {
		out[r] = true
	}
	for _, r := range l {
		out[r] = true
	}
	return out
}

// within: is all of it in another one?
func (s set) within(other set) bool {
	for r := range s {
		if !other[r] {
			return false
		}
	}
	return true
}

func (s set) same(other set) bool { return s.within(other) && other.within(s) }

// model is what the words tell of a store.
type model struct {
	there, durable set
	kept           set // of a Keep that was cut off; else nil
}

// begun: a model of a store whose records are all durable.
func begun(l ...string) *model {
	return &model{there: set{}.with(l...), durable: set{}.with(l...)}
}

// done: what a call did that answered e: "put x", "sync", "grow" or "keep x y".
func (m *model) done(call string, e api.Errno) {
	w := strings.Fields(call)
	switch {
	case w[0] == "put" && (e == api.OK || e == api.ErrCut):
		m.there = m.there.with(w[1])
	case w[0] == "keep" && e == api.ErrCut:
		m.kept = set{}.with(w[1:]...)
	case w[0] == "keep" && e == api.OK:
		*m = *begun(w[1:]...)
	case (w[0] == "sync" || w[0] == "grow") && e == api.OK:
		m.durable = m.there
	}
}

// allows: may these records be there behind a crash?
func (m *model) allows(got set) bool {
	return m.durable.within(got) && got.within(m.there) || m.kept != nil && got.same(m.kept)
}

// call does what a line says.
func call(s *store.Store, line string) api.Errno {
	w := strings.Fields(line)
	switch w[0] {
	case "put":
		_, e := s.Put([]byte(w[1]))
		return e
	case "sync":
		return s.Sync()
	case "grow":
		return s.Grow()
	}
	return s.Keep(sums(w[1:])...)
}

// found: the store's records behind Open, which the model has to allow.
func found(t *testing.T, fs *vfs.FS, m *model) (*store.Store, set) {
	t.Helper()
	s := opened(t, fs)
	got := set{}.with(texts(t, s)...)
	if !m.allows(got) {
		t.Fatalf("records %v, of %v, durable %v, kept %v", got, m.there, m.durable, m.kept)
	}
	return s, got
}

// script: calls, one by one, until one is cut off.
func script(t *testing.T, s *store.Store, m *model, lines []string) {
	t.Helper()
	for _, line := range lines {
		e := call(s, line)
		m.done(line, e)
		if e == api.ErrCut {
			return
		}
		if e != api.OK {
			t.Fatalf("%s: %v", line, e)
		}
		if got := (set{}).with(texts(t, s)...); !got.same(m.there) {
			t.Fatalf("%s: %v, not %v", line, got, m.there)
		}
	}
}

var scripts = [][]string{
	{"put abc", "put xyz", "sync", "put qqqqqqqqqqqqqqqqqqqq", "put r", "sync"},
	{"put a", "grow", "put b", "put cccccccc", "grow", "grow", "put d", "sync", "put e"},
	{"put a", "put b", "keep b", "put c", "keep b c", "put d", "keep"},
	{"put a", "sync", "put b", "grow", "put c", "keep a c", "put dddddd", "put b", "grow", "put e", "keep e b", "put f", "sync"},
	{"keep", "grow", "sync", "put a", "keep a", "keep a a", "grow", "put b", "keep"},
}

// P16.2, P16.5

func TestOpenCutAnywhere(t *testing.T) {
	done := false
	for stop := 0; !done; stop++ {
		for acts := range 8 {
			for n := range 10 {
				fs := disk(t, 1000)
				lay(t, fs, "other", "alone")
				fs.Stop(stop)
				s, e := store.Open(fs)
				if done = e == api.OK; !done && (e != api.ErrCut || s != nil) {
					t.Fatalf("Open: %v", e)
				}
				fs.Crash(acts, n)
				is(t, fs, "other", "alone")
				s = opened(t, fs)
				holds(t, s)
				put(t, s, "abc")
				does(t, "Sync", s.Sync())
				fs.Crash(0, 0)
				holds(t, opened(t, fs), "abc")
			}
		}
	}
}

func TestTheFirstOpenNeedsNoMoreRoomBehindACut(t *testing.T) {
	room := 0
	for {
		if _, e := store.Open(disk(t, room)); e == api.OK {
			break
		}
		room++
	}
	done := false
	for stop := 0; !done; stop++ {
		for acts := range 8 {
			fs := disk(t, room)
			fs.Stop(stop)
			_, e := store.Open(fs)
			done = e == api.OK
			fs.Crash(acts, 99)
			holds(t, opened(t, fs))
		}
	}
}

func TestCutAnywhere(t *testing.T) {
	for _, lines := range scripts {
		done := false
		for stop := 0; !done; stop++ {
			for acts := range 6 {
				for _, n := range []int{-1, 0, 1, 5, 12, 13, 14, 20, 100} {
					fs := disk(t, 10000)
					lay(t, fs, "other", "alone")
					s := opened(t, fs)
					m := begun()
					from := fs.Steps()
					fs.Stop(stop)
					script(t, s, m, lines)
					done = fs.Steps()-from < stop
					fs.Crash(acts, n)
					s, got := found(t, fs, m)
					is(t, fs, "other", "alone")
					goesOn(t, fs, s, got)
				}
			}
		}
	}
}

// goesOn: behind a crash and Open all of that is durable, and a store does what it does.
func goesOn(t *testing.T, fs *vfs.FS, s *store.Store, got set) {
	t.Helper()
	m := &model{there: got, durable: got}
	fs.Crash(0, 0)
	s, _ = found(t, fs, m)
	script(t, s, m, []string{"put new", "grow", "put newer", "sync", "put newest"})
	fs.Crash(0, 0)
	s, _ = found(t, fs, m)
	script(t, s, m, []string{"keep newer"})
	fs.Crash(0, 0)
	found(t, fs, m)
}

func TestOpenBehindACrashCutAnywhere(t *testing.T) {
	lines := scripts[3]
	for stop := range 60 {
		for acts := range 4 {
			done := false
			for again := 0; !done; again++ {
				for n := range 4 {
					fs := disk(t, 10000)
					s := opened(t, fs)
					m := begun()
					fs.Stop(stop)
					script(t, s, m, lines)
					fs.Crash(acts, 5*n)
					fs.Stop(again)
					s, e := store.Open(fs)
					if done = e == api.OK; !done && (e != api.ErrCut || s != nil) {
						t.Fatalf("Open: %v", e)
					}
					fs.Crash(3-n, n)
					found(t, fs, m)
				}
			}
		}
	}
}

func TestWhatACrashLeftTakesNoRoom(t *testing.T) {
	for stop := range 40 {
		for acts := range 5 {
			fs := disk(t, 10000)
			s := opened(t, fs)
			put(t, s, strings.Repeat("a", 500), strings.Repeat("b", 500))
			does(t, "Sync", s.Sync())
			fs.Stop(stop)
			s.Keep(sum(strings.Repeat("b", 500)))
			fs.Crash(acts, 1000)
			s = opened(t, fs)
			if most := len(s.IDs())*520 + 100; fs.Used() > most {
				t.Errorf("%d bytes are used, not %d", fs.Used(), most)
			}
			used := fs.Used()
			fs.Crash(0, 0)
			if fs.Used() != used {
				t.Errorf("%d bytes are used behind a crash, not %d", fs.Used(), used)
			}
		}
	}
}

// All of it, held against a reckoning from the words

// anyLine: some call, most of which the store can do.
func anyLine(r *rand.Rand, m *model) string {
	switch r.Intn(12) {
	case 0:
		return "sync"
	case 1:
		return "grow"
	case 2:
		line := "keep"
		for _, record := range slices.Sorted(maps.Keys(m.there)) {
			if r.Intn(2) > 0 {
				line += " " + record
			}
		}
		if r.Intn(10) == 0 {
			line += " missing"
		}
		return line
	}
	return "put " + strconv.Itoa(r.Intn(30)) + strings.Repeat("x", r.Intn(40))
}

// step: a call, held against the words; true, if the power went.
func step(t *testing.T, fs *vfs.FS, s *store.Store, m *model, line string) bool {
	t.Helper()
	was := show(fs)
	e := call(s, line)
	missing := strings.HasSuffix(line, "missing")
	switch {
	case missing != (e == api.ErrMissing), e != api.OK && e != api.ErrFull && e != api.ErrCut && e != api.ErrMissing:
		t.Fatalf("%s: %v", line, e)
	case e == api.ErrCut:
		m.done(line, e)
		return true
	case e == api.OK:
		m.done(line, e)
	case show(fs) != was:
		t.Fatalf("%s: %v, and %s became %s", line, e, was, show(fs))
	}
	if got := (set{}).with(texts(t, s)...); !got.same(m.there) {
		t.Fatalf("%s: %v, and there are %v, not %v", line, e, got, m.there)
	}
	return false
}

func TestManyCallsAgainstTheWords(t *testing.T) {
	r := rand.New(rand.NewSource(28))
	for range 300 {
		fs := disk(t, 300+r.Intn(3000))
		s := opened(t, fs)
		m := begun()
		for range 60 {
			if r.Intn(12) == 0 {
				fs.Stop(r.Intn(12))
			}
			cut := step(t, fs, s, m, anyLine(r, m))
			if !cut && r.Intn(15) > 0 {
				continue
			}
			fs.Crash(r.Intn(6), r.Intn(100))
			if r.Intn(3) == 0 {
				fs.Stop(r.Intn(6))
				store.Open(fs)
				fs.Crash(r.Intn(6), r.Intn(100))
			}
			var got set
			s, got = found(t, fs, m)
			m = &model{there: got, durable: got}
		}
	}
}

func TestACrashAtAnyByteOfWhatIsPut(t *testing.T) {
	records := []string{"abc", "", "a longer one", "x", "yy"}
	for n := range 90 {
		fs := disk(t, 1000)
		s := opened(t, fs)
		put(t, s, "durable")
		does(t, "Sync", s.Sync())
		put(t, s, records...)
		fs.Crash(0, n)
		s = opened(t, fs)
		got := texts(t, s)
		want := set{}.with(records...).with("durable")
		if !slices.Contains(got, "durable") || !(set{}).with(got...).within(want) {
			t.Errorf("%d bytes left: %q", n, got)
		}
		put(t, s, records...)
		does(t, "Sync", s.Sync())
		fs.Crash(0, 0)
		holds(t, opened(t, fs), append(records, "durable")...)
	}
}
