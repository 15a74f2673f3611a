package store_test

import (
	"bytes"
	"crypto/sha256"
	"slices"
	"strconv"
	"strings"
	"testing"

	"towline/api"
	"towline/pack"
	"towline/store"
	"towline/vfs"
)

// sum: the id of some text.
func sum(text string) api.ID { return api.ID(sha256.Sum256([]byte(text))) }

func opened(t *testing.T, fs *vfs.FS) *store.Store {
	t.Helper()
	s, e := store.Open(fs)
	if e != api.OK || s == nil {
		t.Fatalf("Open: %v", e)
	}
	return s
}

func put(t *testing.T, s *store.Store, records ...string) {
	t.Helper()
	for _, r := range records {
		if id, e := s.Put([]byte(r)); e != api.OK || id != sum(r) {
			t.Fatalf("Put of %d bytes: %x %v", len(r), id, e)
		}
	}
}

// does: a call has no error.
func does(t *testing.T, what string, e api.Errno) {
	t.Helper()
	if e != api.OK {
		t.Fatalf("%s: %v", what, e)
	}
}

// refuses: a call has that error, and changes nothing.
func refuses(t *testing.T, fs *vfs.FS, s *store.Store, what string, call func() api.Errno, want api.Errno) {
	t.Helper()
	was, had, packs := show(fs), texts(t, s), s.Packs()
	if e := call(); e != want {
		t.Errorf("%s: %v, not %v", what, e, want)
	}
	if now := show(fs); now != was {
		t.Errorf("%s: %s became %s", what, was, now)
	}
	if has := texts(t, s); !slices.Equal(has, had) || s.Packs() != packs {
		t.Errorf("%s: %q in %d packs became %q in %d", what, had, packs, has, s.Packs())
	}
}

// putting: a Put, of which an answer beside an error is looked at.
func putting(t *testing.T, s *store.Store, record string) func() api.Errno {
	return func() api.Errno {
		t.Helper()
		id, e := s.Put([]byte(record))
		if e != api.OK && id != (api.ID{}) {
			t.Errorf("Put: %x beside %v", id, e)
		}
		return e
	}
}

// keeping: a Keep of some records.
func keeping(s *store.Store, records ...string) func() api.Errno {
	return func() api.Errno { return s.Keep(sums(records)...) }
}

func sums(records []string) []api.ID {
	var ids []api.ID
	for _, r := range records {
		ids = append(ids, sum(r))
	}
	return ids
}

// texts: the records of a store, in order, all of which it gives; no id is told twice.
func texts(t *testing.T, s *store.Store) []string {
	t.Helper()
	var l []string
	for _, id := range s.IDs() {
		b, e := s.Get(id)
		if e != api.OK || sum(string(b)) != id || !s.Has(id) {
			t.Fatalf("Get of what IDs tells: %q %v", b, e)
		}
		l = append(l, string(b))
	}
	slices.Sort(l)
	if len(slices.Compact(slices.Clone(l))) != len(l) {
		t.Fatalf("IDs tells one twice: %q", l)
	}
	return l
}

// holds: the store has just these records.
func holds(t *testing.T, s *store.Store, records ...string) {
	t.Helper()
	want := slices.Sorted(slices.Values(records))
	if l := texts(t, s); !slices.Equal(l, want) {
		t.Errorf("the store has %.200q, not %.200q", l, want)
	}
	if n := s.Packs(); n < 1 || n > max(1, len(records)) {
		t.Errorf("%d records in %d packs", len(records), n)
	}
}

// lacks: none of these records is there.
func lacks(t *testing.T, s *store.Store, records ...string) {
	t.Helper()
	for _, id := range append(sums(records), api.ID{}) {
		if b, e := s.Get(id); e != api.ErrMissing || b != nil || s.Has(id) {
			t.Errorf("Get of what isn't there: %q %v", b, e)
		}
	}
}

// P16.2

func TestOpenBeginsAnEmptyStore(t *testing.T) {
	fs := disk(t, 1000)
	lay(t, fs, "other", "")
	s := opened(t, fs)
	holds(t, s)
	lacks(t, s, "", "abc")
	if s.Packs() != 1 {
		t.Errorf("%d packs", s.Packs())
	}
	for _, name := range fs.List() {
		if name != "other" && !strings.HasPrefix(name, "pack") {
			t.Errorf("a file %q", name)
		}
	}
}

func TestOpenFindsWhatLiesThere(t *testing.T) {
	fs := disk(t, 10000)
	s := opened(t, fs)
	put(t, s, "abc", "", "xyz")
	holds(t, opened(t, fs), "abc", "", "xyz")
	s = opened(t, fs)
	does(t, "Grow", s.Grow())
	put(t, s, "q")
	holds(t, opened(t, fs), "abc", "", "xyz", "q")
	does(t, "Sync", s.Sync())
	fs.Crash(0, 0)
	holds(t, opened(t, fs), "abc", "", "xyz", "q")
	holds(t, opened(t, fs.Fork()), "abc", "", "xyz", "q")
}

func TestOpenNeedsRoomOnce(t *testing.T) {
	for left := range 1001 {
		fs := disk(t, 2000)
		leave(t, fs, left)
		was := show(fs)
		s, e := store.Open(fs)
		if e == api.OK {
			holds(t, s)
			fs.Crash(0, 0)
			if left = fs.Left(); left > 0 {
				fs.Append("other", []byte(strings.Repeat("o", left)))
			}
			holds(t, opened(t, fs))
			continue
		}
		if e != api.ErrFull || s != nil || left == 1000 {
			t.Fatalf("Open with %d bytes left: %v", left, e)
		}
		if now := show(fs); now != was {
			t.Errorf("%s became %s", was, now)
		}
	}
}

func TestOpenHasNoRoomAheadOfNoPower(t *testing.T) {
	fs := disk(t, 0)
	fs.Stop(0)
	if s, e := store.Open(fs); e != api.ErrFull || s != nil {
		t.Errorf("Open: %v", e)
	}
}

func TestOpenOfAStoreNeedsNoRoom(t *testing.T) {
	fs := disk(t, 1000)
	s := opened(t, fs)
	put(t, s, "abc")
	does(t, "Grow", s.Grow())
	put(t, s, "xyz")
	does(t, "Sync", s.Sync())
	put(t, s, "not durable")
	leave(t, fs, 0)
	holds(t, opened(t, fs), "abc", "xyz", "not durable")
	fs.Crash(0, 5)
	holds(t, opened(t, fs), "abc", "xyz")
	fs.Append("other", bytes.Repeat([]byte("o"), fs.Left()))
	holds(t, opened(t, fs), "abc", "xyz")
}

func TestOpenWhereMoreThanTheRoomIsUsed(t *testing.T) {
	fs := disk(t, 1000)
	s := opened(t, fs)
	put(t, s, "abc")
	does(t, "Sync", s.Sync())
	leave(t, fs, 0)
	fs.Create("more")
	fs.Flush()
	fs.Remove("other")
	fs.Append("more", bytes.Repeat([]byte("m"), 500))
	fs.Sync("more")
	fs.Crash(0, 0)
	if fs.Left() >= 0 {
		t.Fatalf("%d bytes left", fs.Left())
	}
	s = opened(t, fs)
	holds(t, s, "abc")
	refuses(t, fs, s, "Put", putting(t, s, ""), api.ErrFull)
	refuses(t, fs, s, "Keep", keeping(s, "abc"), api.ErrFull)
	refuses(t, fs, s, "Grow", s.Grow, api.ErrFull)
	put(t, s, "abc")
}

func TestOpenLeavesOtherFilesAlone(t *testing.T) {
	fs := disk(t, 1000)
	names := []string{"a", "p", "pac", "Pack", "refs", "work/pack", "a/packs"}
	for _, name := range names {
		lay(t, fs, name, name)
	}
	s := opened(t, fs)
	put(t, s, "abc")
	does(t, "Grow", s.Grow())
	does(t, "Keep", s.Keep())
	opened(t, fs)
	fs.Crash(0, 0)
	opened(t, fs)
	for _, name := range names {
		is(t, fs, name, name)
	}
}

// P16.3

func TestPutHasAndGet(t *testing.T) {
	fs := disk(t, 2000000)
	s := opened(t, fs)
	most := strings.Repeat("m", pack.MaxRecord)
	records := []string{"abc", "", "\x00", "xyz\n", most, strings.Repeat("n", 1000)}
	for i, r := range records {
		lacks(t, s, r)
		put(t, s, r)
		holds(t, s, records[:i+1]...)
	}
	lacks(t, s, "ab", "a", most[1:])
}

func TestPutOfTooLongARecord(t *testing.T) {
	fs := disk(t, api.MaxDisk)
	s := opened(t, fs)
	long := strings.Repeat("l", pack.MaxRecord+1)
	refuses(t, fs, s, "Put", putting(t, s, long), api.ErrLong)
	leave(t, fs, 0)
	fs.Stop(0)
	refuses(t, fs, s, "Put", putting(t, s, long), api.ErrLong)
	refuses(t, fs, s, "Put", putting(t, s, long+long), api.ErrLong)
}

func TestPutOfWhatIsThereNeedsNothing(t *testing.T) {
	fs := disk(t, 10000)
	s := opened(t, fs)
	put(t, s, "abc")
	does(t, "Grow", s.Grow())
	put(t, s, "xyz")
	leave(t, fs, 0)
	for range 2 {
		fs.Stop(0)
		was := show(fs)
		put(t, s, "abc", "xyz", "abc")
		if now := show(fs); now != was {
			t.Errorf("%s became %s", was, now)
		}
		holds(t, s, "abc", "xyz")
		fs.Stop(-1)
		s = opened(t, fs)
	}
}

func TestSyncMakesAllDurable(t *testing.T) {
	fs := disk(t, 10000)
	s := opened(t, fs)
	does(t, "Sync", s.Sync())
	put(t, s, "abc", "", "xyz")
	does(t, "Sync", s.Sync())
	put(t, s, "not durable")
	fs.Crash(0, 0)
	s = opened(t, fs)
	holds(t, s, "abc", "", "xyz")
	put(t, s, "not durable")
	s = opened(t, fs)
	does(t, "Sync", s.Sync())
	fs.Crash(0, 0)
	holds(t, opened(t, fs), "abc", "", "xyz", "not durable")
}

func TestGrowMakesAllDurable(t *testing.T) {
	fs := disk(t, 10000)
	s := opened(t, fs)
	var all []string
	for i := range 30 {
		does(t, "Grow", s.Grow())
		for j := range i % 4 {
			r := strconv.Itoa(i) + "." + strconv.Itoa(j)
			put(t, s, r)
			all = append(all, r)
		}
		holds(t, s, all...)
		if i%7 == 0 {
			does(t, "Grow", s.Grow())
			put(t, s, "not durable")
			fs.Crash(0, 0)
			s = opened(t, fs)
			holds(t, s, all...)
		}
	}
}

func TestPacksTellsInHowManyFilesRecordsLie(t *testing.T) {
	fs := disk(t, 10000)
	s := opened(t, fs)
	for i := range 5 {
		for range 3 {
			does(t, "Grow", s.Grow())
		}
		if s.Packs() != max(1, i) {
			t.Errorf("%d packs behind %d records, each in a file of its own", s.Packs(), i)
		}
		put(t, s, strconv.Itoa(i))
		if s.Packs() != i+1 || opened(t, fs).Packs() != i+1 {
			t.Errorf("%d packs with %d records, each in a file of its own", s.Packs(), i+1)
		}
	}
	n := len(fs.List())
	for range 100 {
		does(t, "Grow", s.Grow())
	}
	if len(fs.List()) > n+1 {
		t.Errorf("many a Grow with nothing put makes %d files of %d", len(fs.List()), n)
	}
}

// P16.4

func TestExampleOfKeep(t *testing.T) {
	fs := disk(t, 1000)
	s := opened(t, fs)
	put(t, s, "abc", "xyz")
	does(t, "Sync", s.Sync())
	does(t, "Keep", s.Keep(sum("xyz")))
	fs.Crash(0, 0)
	s = opened(t, fs)
	holds(t, s, "xyz")
	lacks(t, s, "abc")
}

// grown: a store whose records lie in several packs, the last of them not durable.
func grown(t *testing.T, fs *vfs.FS) *store.Store {
	t.Helper()
	s := opened(t, fs)
	put(t, s, "a", "b")
	does(t, "Grow", s.Grow())
	put(t, s, "c", "d")
	does(t, "Grow", s.Grow())
	put(t, s, "e")
	return s
}

func TestKeepOfAnyRecords(t *testing.T) {
	all := []string{"a", "b", "c", "d", "e"}
	for set := range 1 << len(all) {
		fs := disk(t, 10000)
		s := grown(t, fs)
		var kept, gone []string
		for i, r := range all {
			if set>>i&1 > 0 {
				kept = append([]string{r}, kept...)
			} else {
				gone = append(gone, r)
			}
		}
		does(t, "Keep", s.Keep(sums(append(kept, kept...))...))
		holds(t, s, kept...)
		lacks(t, s, gone...)
		put(t, s, "not durable")
		fs.Crash(0, 0)
		s = opened(t, fs)
		holds(t, s, kept...)
		lacks(t, s, gone...)
		put(t, s, gone...)
		does(t, "Sync", s.Sync())
		fs.Crash(0, 0)
		holds(t, opened(t, fs), all...)
	}
}

func TestKeepOfWhatIsMissing(t *testing.T) {
	fs := disk(t, 10000)
	s := grown(t, fs)
	refuse := func() {
		t.Helper()
		refuses(t, fs, s, "Keep", keeping(s, "f"), api.ErrMissing)
		refuses(t, fs, s, "Keep", keeping(s, "a", "b", "c", "d", "e", "f"), api.ErrMissing)
		refuses(t, fs, s, "Keep", keeping(s, "f", "a"), api.ErrMissing)
		refuses(t, fs, s, "Keep", func() api.Errno { return s.Keep(api.ID{}) }, api.ErrMissing)
	}
	refuse()
	does(t, "Keep", s.Keep(sums([]string{"a", "e"})...))
	refuses(t, fs, s, "Keep", keeping(s, "a", "b"), api.ErrMissing)
	put(t, s, "b", "c", "d")
	leave(t, fs, 0)
	refuse()
	fs.Stop(0)
	refuse()
}

func TestKeepMakesRoom(t *testing.T) {
	fs := disk(t, 1000)
	s := opened(t, fs)
	for i := range 100 {
		r := strings.Repeat(string(rune('a'+i%26)), 300) + strconv.Itoa(i)
		put(t, s, r)
		does(t, "Keep", s.Keep(sum(r)))
		holds(t, s, r)
		if fs.Used() > 400 {
			t.Fatalf("%d bytes are used for one record of %d", fs.Used(), len(r))
		}
		fs.Crash(0, 0)
		if fs.Used() > 400 {
			t.Fatalf("%d bytes are used behind a crash", fs.Used())
		}
		if i%3 == 0 {
			s = opened(t, fs)
		}
	}
}

func TestKeepOfThousands(t *testing.T) {
	fs := disk(t, api.MaxDisk)
	s := opened(t, fs)
	var all, half []string
	for i := range 2000 {
		all = append(all, strconv.Itoa(i))
		if i%2 == 0 {
			half = append(half, all[i])
		}
	}
	put(t, s, all...)
	holds(t, s, all...)
	does(t, "Keep", s.Keep(sums(half)...))
	fs.Crash(0, 0)
	holds(t, opened(t, fs), half...)
}

// P16.5

func TestPutNeedsRoom(t *testing.T) {
	for left := range 60 {
		fs := disk(t, 1000)
		s := opened(t, fs)
		put(t, s, "abc")
		leave(t, fs, left)
		r := strings.Repeat("r", 30)
		// How much room a record needs beside its bytes is free; the store's is the head of a frame.
		if left < len(r)+12 {
			refuses(t, fs, s, "Put", putting(t, s, r), api.ErrFull)
			fs.Stop(0)
			refuses(t, fs, s, "Put", putting(t, s, r), api.ErrFull)
			holds(t, s, "abc")
			continue
		}
		put(t, s, r)
		does(t, "Sync", s.Sync())
		fs.Crash(0, 0)
		holds(t, opened(t, fs), "abc", r)
	}
}

func TestGrowAndKeepNeedRoom(t *testing.T) {
	calls := map[string]func(s *store.Store) func() api.Errno{
		"Grow":           func(s *store.Store) func() api.Errno { return s.Grow },
		"Keep of none":   func(s *store.Store) func() api.Errno { return keeping(s) },
		"Keep of some":   func(s *store.Store) func() api.Errno { return keeping(s, "b", "c", "e") },
		"Keep of others": func(s *store.Store) func() api.Errno { return keeping(s, "d", "e", "d", "e") },
	}
	want := map[string][]string{
		"Grow": {"a", "b", "c", "d", "e"}, "Keep of none": nil, "Keep of some": {"b", "c", "e"}, "Keep of others": {"d", "e"},
	}
	for name, call := range calls {
		for left := range 500 {
			fs := disk(t, 2000)
			s := grown(t, fs)
			leave(t, fs, left)
			f := fs.Fork()
			if e := call(opened(t, f))(); e == api.ErrFull && left < 400 {
				refuses(t, fs, s, name, call(s), api.ErrFull)
				fs.Stop(0)
				refuses(t, fs, s, name, call(s), api.ErrFull)
				fs.Crash(0, 0)
				holds(t, opened(t, fs), "a", "b", "c", "d")
				continue
			}
			does(t, name, call(s)())
			holds(t, s, want[name]...)
			fs.Crash(0, 0)
			holds(t, opened(t, fs), want[name]...)
		}
	}
}

func TestWithoutPowerNothingIsDone(t *testing.T) {
	fs := disk(t, 10000)
	s := grown(t, fs)
	fs.Stop(0)
	refuses(t, fs, s, "Put", putting(t, s, "f"), api.ErrCut)
	refuses(t, fs, s, "Sync", s.Sync, api.ErrCut)
	refuses(t, fs, s, "Grow", s.Grow, api.ErrCut)
	refuses(t, fs, s, "Keep", keeping(s, "a"), api.ErrCut)
	refuses(t, fs, s, "Keep", keeping(s, "a", "b", "c", "d", "e"), api.ErrCut)
	if n, e := store.Open(fs); e != api.ErrCut || n != nil {
		t.Errorf("Open: %v", e)
	}
	f := disk(t, 10000)
	f.Stop(0)
	if n, e := store.Open(f); e != api.ErrCut || n != nil || len(f.List()) != 0 {
		t.Errorf("Open: %v", e)
	}
	fs.Crash(0, 0)
	holds(t, opened(t, fs), "a", "b", "c", "d")
}

// P1

func TestCallsOfAStoreBehindACrashEnd(t *testing.T) {
	for stop := range 40 {
		for acts := range 4 {
			fs := disk(t, 10000)
			s := opened(t, fs)
			for round := range 3 {
				fs.Stop(stop)
				s.Put([]byte("abc"))
				s.Grow()
				s.Put([]byte("xyz"))
				s.Keep(sum("xyz"))
				s.Sync()
				fs.Crash(acts, round)
				for _, id := range append(s.IDs(), sum("abc"), sum("xyz")) {
					s.Has(id)
					s.Get(id)
				}
				s.Packs()
			}
		}
	}
}

func TestOpenOfWhatNoStoreLaidEnds(t *testing.T) {
	for _, text := range []string{"", "\n", "\n\n", "pack-1", "pack-1\npack-1\n", "other\n", "pack-9", "packs\n", "\xff\x00", strings.Repeat("pack-1\n", 99)} {
		for _, name := range []string{"packs", "packs.new", "pack-1", "pack-2", "pack"} {
			fs := disk(t, 10000)
			lay(t, fs, "pack-1", "")
			if name == "pack-1" {
				fs.Remove(name)
			}
			lay(t, fs, name, text)
			s, e := store.Open(fs)
			if (e == api.OK) != (s != nil) {
				t.Fatalf("Open: %v", e)
			}
			if s != nil {
				put(t, s, "abc")
				does(t, "Grow", s.Grow())
				does(t, "Keep", s.Keep())
			}
		}
	}
}

// P2

func TestPutAndGetShareNothing(t *testing.T) {
	fs := disk(t, 1000)
	s := opened(t, fs)
	data := []byte("abcroom")[:3]
	id, _ := s.Put(data)
	put(t, s, "xyz")
	if string(data[:7]) != "abcroom" {
		t.Errorf("what is handed in became %q", data[:7])
	}
	over(data)
	first, _ := s.Get(id)
	second, _ := s.Get(id)
	over(first)
	if string(second) != "abc" {
		t.Errorf("another answer is %q", second)
	}
	holds(t, s, "abc", "xyz")
}

func TestIDsShareNothing(t *testing.T) {
	fs := disk(t, 10000)
	s := grown(t, fs)
	does(t, "Grow", s.Grow())
	first, second := s.IDs(), s.IDs()
	clear(first[:cap(first)])
	put(t, s, "f", "g")
	holds(t, s, "a", "b", "c", "d", "e", "f", "g")
	if len(second) != 5 || slices.Contains(second, api.ID{}) {
		t.Errorf("another answer is %x", second)
	}
}

func TestKeepSharesNothing(t *testing.T) {
	fs := disk(t, 10000)
	s := grown(t, fs)
	ids := []api.ID{sum("a"), sum("d"), sum("a"), sum("b")}[:3]
	does(t, "Keep", s.Keep(ids...))
	if !slices.Equal(ids[:4], []api.ID{sum("a"), sum("d"), sum("a"), sum("b")}) {
		t.Errorf("what is handed in became %x", ids)
	}
	clear(ids[:4])
	holds(t, s, "a", "d")
}

func TestTwoStoresShareNothing(t *testing.T) {
	fs := disk(t, 10000)
	s := grown(t, fs)
	f := fs.Fork()
	n := opened(t, f)
	put(t, s, "s")
	put(t, n, "n")
	does(t, "Keep", n.Keep(sum("n")))
	holds(t, s, "a", "b", "c", "d", "e", "s")
	holds(t, n, "n")
}
