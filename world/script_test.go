package world_test

import (
	"maps"
	"math/rand"
	"slices"
	"strconv"
	"strings"
	"testing"

	"towline/api"
	"towline/object"
	"towline/sha"
	"towline/snap"
	"towline/world"
)

// P23.5 and P23.6: scripts of anything that may be done.

// script is a world, and what is known of it.
type script struct {
	w       *world.World
	r       *rand.Rand
	shared  bool // may several copies write one file?
	unsure  map[int]struct{}
	before  [world.MaxCopies][world.MaxCopies]api.ID // what each knew of each other one
	count   map[string]int
	history strings.Builder
}

func newScript(t *testing.T, seed int64, copies int, shared bool) *script {
	t.Helper()
	return &script{w: begun(t, copies), r: rand.New(rand.NewSource(seed)), shared: shared, unsure: map[int]struct{}{}, count: map[string]int{}}
}

// did: something was done.
func (s *script) did(what string, e api.Errno) {
	s.count[what+" "+e.Error()]++
	s.history.WriteString(what + " " + e.Error() + " " + strconv.Itoa(s.w.Len()) + "\n")
}

// path: that of some file which a copy may write.
func (s *script) path(i int) string {
	if s.shared {
		return []string{"f", "g", "d/f"}[s.r.Intn(3)]
	}
	return world.Name(i) + []string{"/f", "/g", "/d/h", "/e"}[s.r.Intn(4)]
}

// text: some text that others may be merged with.
func (s *script) text() []byte {
	out := ""
	for i := range 3 {
		out += strings.Repeat(strconv.Itoa(i)+"\n", 3) + strconv.Itoa(s.r.Intn(3)) + "\n"
	}
	return []byte(out)
}

// letter: some letter, or one that isn't there.
func (s *script) letter() int { return s.r.Intn(s.w.Len()+2) - 1 }

// act: something is done.
func (s *script) act(t *testing.T) {
	t.Helper()
	i, from := s.r.Intn(s.w.Copies()), s.r.Intn(s.w.Copies())
	switch s.r.Intn(32) {
	case 0, 1, 2, 3, 4:
		s.did("Write", s.w.Write(i, snap.File{Path: s.path(i), Data: s.text(), Stamp: float64(s.r.Intn(3))}))
	case 5, 6, 7, 8, 9:
		s.asks(t, i)
	case 10, 11, 12:
		s.did("Pull", s.w.Pull(i, from))
	case 13, 14, 15, 16, 17, 18, 19:
		s.did("Deliver", s.w.Deliver(s.letter()))
	case 20:
		s.did("Drop", s.w.Drop(s.letter()))
	case 21:
		s.did("Double", s.w.Double(s.letter()))
	case 22:
		s.did("Spoil", s.w.Spoil(s.letter(), s.r.Intn(80), byte(s.r.Intn(256))))
	case 23, 24, 25:
		s.meets(t, i, from)
	case 26:
		e := s.w.Stop(i, s.r.Intn(60))
		s.did("Stop", e)
		if e == api.OK {
			s.unsure[i] = struct{}{}
		}
	case 27:
		e := s.w.Crash(i, s.r.Intn(6)-1, s.r.Intn(200)-50)
		s.did("Crash", e)
		delete(s.unsure, i)
	case 28, 29, 30:
		s.did("Restart", s.w.Restart(i))
	default:
		s.rounds(t)
	}
	s.looks(t)
}

// asks: something is asked of a copy itself.
func (s *script) asks(t *testing.T, i int) {
	t.Helper()
	c, e := s.w.Copy(i)
	if e != api.OK {
		s.did("Copy", e)
		return
	}
	switch n := s.r.Intn(10); {
	case n < 5:
		_, e := c.Commit(object.Commit{Author: world.Name(i), Note: strconv.Itoa(s.r.Int()), Stamp: float64(s.r.Intn(5))})
		s.did("Commit", e)
	case n < 6:
		_, e := c.Collect()
		s.did("Collect", e)
	case n < 7 || !s.shared:
		s.did("Remove", c.Remove(s.path(i)))
	default:
		ids := c.Records()
		if len(ids) == 0 {
			return
		}
		slices.SortFunc(ids, func(a, b api.ID) int { return strings.Compare(string(a[:]), string(b[:])) })
		s.did("Switch", c.Switch(ids[s.r.Intn(len(ids))]))
	}
}

func (s *script) meets(t *testing.T, i, from int) {
	t.Helper()
	_, e := s.w.Meet(i, from, object.Commit{Note: strconv.Itoa(s.r.Int())})
	s.did("Meet", e)
	if e == api.ErrClash && !s.shared {
		t.Error("Meet clashes")
	}
}

// rounds: a Round, and what each knows of each then.
func (s *script) rounds(t *testing.T) {
	t.Helper()
	// What was cut off may be done behind a crash, so that what each knows is asked for ahead of some Rounds.
	for i := range s.w.Copies() {
		if s.shared {
			s.w.Restart(i)
		}
	}
	s.looks(t)
	s.did("Round", s.w.Round())
	if s.w.Len() != 0 {
		t.Errorf("%d letters behind a Round", s.w.Len())
	}
	for i := range s.w.Copies() {
		for from := range s.w.Copies() {
			_, unsure := s.unsure[i]
			_, doubtful := s.unsure[from]
			if i != from && !unsure && !doubtful {
				s.learnt(t, i, from)
			}
		}
	}
}

// learnt: what a copy knows of another one behind a Round.
func (s *script) learnt(t *testing.T, i, from int) {
	t.Helper()
	c := held(t, s.w, from)
	want, old := c.Head(), s.before[i][from]
	if comes, e := c.Comes(want, old); old != zero && (e != api.OK || !comes) {
		want = old
		if !s.shared {
			t.Errorf("copy %d has a head that doesn't come from what copy %d knew", from, i)
		}
	}
	knows(t, s.w, i, from, want)
}

// looks: each copy is whole, and knows only what comes from what it knew.
func (s *script) looks(t *testing.T) {
	t.Helper()
	for i := range s.w.Copies() {
		c, e := s.w.Copy(i)
		if _, unsure := s.unsure[i]; unsure || e != api.OK {
			continue
		}
		whole(t, c)
		for from := range s.w.Copies() {
			id, _ := c.Peer(world.Name(from))
			old := s.before[i][from]
			s.before[i][from] = id
			if id == old || old == zero {
				continue
			}
			if comes, e := c.Comes(id, old); e != api.OK || !comes {
				t.Errorf("what copy %d knows of copy %d became what doesn't come from that: %v", i, from, e)
			}
		}
	}
}

// tells: all that can be told of the world.
func (s *script) tells(t *testing.T) string {
	t.Helper()
	out := state(t, s.w)
	for s.w.Len() > 0 {
		s.w.Drop(0)
		out += "."
	}
	return s.history.String() + out
}

// ends: the copies whose power may be gone crash, and all are up.
func (s *script) ends(t *testing.T) {
	t.Helper()
	for i := range s.w.Copies() {
		if _, unsure := s.unsure[i]; unsure {
			s.w.Crash(i, s.r.Intn(4), 10)
		}
	}
	clear(s.unsure)
	s.rounds(t)
	s.looks(t)
}

// came: how often something came up in all scripts.
func came(t *testing.T, count map[string]int, least int, what ...string) {
	t.Helper()
	for _, w := range what {
		if count[w] < least {
			t.Errorf("%s came up %d times", w, count[w])
		}
	}
}

func (s *script) counted(all map[string]int) {
	for what, n := range s.count {
		all[what] += n
	}
}

func TestScriptsOfAnything(t *testing.T) {
	all := map[string]int{}
	for seed := range int64(150) {
		s := newScript(t, seed, 2+int(seed)%3, true)
		for range 150 {
			s.act(t)
			if t.Failed() {
				t.Fatalf("seed %d: %s", seed, s.history.String())
			}
		}
		s.ends(t)
		s.counted(all)
		if t.Failed() {
			t.Fatalf("seed %d: %s", seed, s.history.String())
		}
	}
	came(t, all, 20, "Write errno 0", "Write errno 190", "Write errno 230", "Commit errno 0", "Commit errno 190", "Commit errno 220", "Collect errno 0", "Switch errno 0", "Pull errno 0", "Pull errno 1", "Pull errno 230", "Deliver errno 0", "Deliver errno 4", "Drop errno 0", "Double errno 0", "Spoil errno 0", "Spoil errno 1", "Meet errno 0", "Meet errno 4", "Meet errno 110", "Meet errno 210", "Meet errno 220", "Stop errno 0", "Crash errno 0", "Crash errno 230", "Restart errno 0", "Restart errno 5", "Round errno 0")
}

// What is done hangs on what was called alone.
func TestTheSameScriptDoesTheSame(t *testing.T) {
	for seed := range int64(6) {
		var told []string
		for range 2 {
			s := newScript(t, 1000+seed, 4, seed%2 == 0)
			for range 150 {
				s.act(t)
			}
			told = append(told, s.tells(t))
		}
		if told[0] != told[1] {
			t.Fatalf("seed %d: the same calls did something else", seed)
		}
	}
}

// P23.6: copies each of which writes only files of a folder of its own never clash, and come to have the same.
func TestFoldersOfTheirOwnNeverClash(t *testing.T) {
	all := map[string]int{}
	for seed := range int64(150) {
		s := newScript(t, 2000+seed, 2+int(seed)%3, false)
		for range 150 {
			s.act(t)
			if t.Failed() {
				t.Fatalf("seed %d: %s", seed, s.history.String())
			}
		}
		s.ends(t)
		s.gathers(t)
		s.counted(all)
		if t.Failed() {
			t.Fatalf("seed %d: %s", seed, s.history.String())
		}
	}
	came(t, all, 20, "Commit errno 0", "Commit errno 190", "Meet errno 0", "Meet errno 190", "Meet errno 220", "Crash errno 0", "Deliver errno 0")
}

// gathers: copy 0 meets all others, and all others it: each has the files of all then.
func (s *script) gathers(t *testing.T) {
	t.Helper()
	want := map[string]string{}
	for i := range s.w.Copies() {
		c := held(t, s.w, i)
		if _, e := c.Commit(object.Commit{Note: "last"}); e != api.OK && e != api.ErrSame {
			t.Fatalf("Commit: %v", e)
		}
		l, _ := c.Files()
		for _, f := range l {
			if strings.HasPrefix(f.Path, world.Name(i)+"/") {
				want[f.Path] = string(f.Data)
			}
		}
	}
	s.rounds(t)
	for i := 1; i < s.w.Copies(); i++ {
		if e := meet(t, s.w, 0, i); e != api.OK && e != api.ErrSame && e != api.ErrMissing {
			t.Errorf("Meet: %v", e)
		}
	}
	s.rounds(t)
	head := held(t, s.w, 0).Head()
	for i := range s.w.Copies() {
		if e := meet(t, s.w, i, 0); e != api.OK && e != api.ErrSame && e != api.ErrMissing {
			t.Errorf("Meet: %v", e)
		}
		c := held(t, s.w, i)
		got := map[string]string{}
		l, _ := c.Files()
		for _, f := range l {
			got[f.Path] = string(f.Data)
		}
		if c.Head() != head || !maps.Equal(got, want) {
			t.Errorf("copy %d has %.8s and %v, not %.8s and %v", i, sha.Hex(c.Head()), got, sha.Hex(head), want)
		}
	}
}

// Room enough: scripts of at most 200 acts with at most 3000 bytes of files, on at most 4 copies.
func TestRoomEnough(t *testing.T) {
	for copies := 1; copies <= 4; copies++ {
		w := begun(t, copies)
		r := rand.New(rand.NewSource(int64(copies)))
		fine := func(what string, e api.Errno) {
			t.Helper()
			if e != api.OK && e != api.ErrSame && e != api.ErrMissing {
				t.Fatalf("%s: %v", what, e)
			}
		}
		for act := range 40 {
			i := act % copies
			p := world.Name(i) + "/" + strconv.Itoa(r.Intn(3))
			fine("Write", w.Write(i, snap.File{Path: p, Data: noise(r.Int(), 1000)}))
			_, e := held(t, w, i).Commit(object.Commit{Note: strings.Repeat("n", 1000)})
			fine("Commit", e)
			if act%8 == 7 {
				fine("Round", w.Round())
			}
			fine("Meet", meet(t, w, i, (i+1)%copies))
		}
		fine("Round", w.Round())
		for i := range copies {
			whole(t, held(t, w, i))
			for from := range copies {
				if from != i {
					knows(t, w, i, from, held(t, w, from).Head())
				}
			}
		}
	}
}
