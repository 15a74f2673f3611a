package dag_test

import (
	"math/rand"
	"slices"
	"strconv"
	"strings"
	"testing"
	"time"

	"towline/api"
	"towline/dag"
)

func list(s ...string) []string { return s }

// added: a graph of nodes, each with its parents behind it.
func added(t *testing.T, nodes ...[]string) *dag.Graph {
	t.Helper()
	g := dag.New()
	for _, n := range nodes {
		if e := g.Add(n[0], n[1:]...); e != api.OK {
			t.Fatalf("Add of %q: %v", n, e)
		}
	}
	return g
}

// diamond: one from which two come, and two that come from both of these.
func diamond(t *testing.T) *dag.Graph {
	t.Helper()
	return added(t, list("r"), list("b", "r"), list("a", "r"), list("y", "b", "a"), list("x", "a", "b"), list("alone"))
}

func answers(t *testing.T, what string, got []string, want ...string) {
	t.Helper()
	if !slices.Equal(got, want) {
		t.Errorf("%s: %.200q, not %.200q", what, got, want)
	}
}

// model: a graph by numbers: which nodes a node has as parents, and which it comes from, as bits.
type model struct {
	names   []string
	parents []uint64
	from    []uint64
}

func (m *model) add(name string, parents uint64) {
	from := uint64(1) << len(m.names)
	for i := range m.names {
		if parents>>i&1 == 1 {
			from |= m.from[i]
		}
	}
	m.names = append(m.names, name)
	m.parents = append(m.parents, parents)
	m.from = append(m.from, from)
}

// named: the names of some nodes, as they were added.
func (m *model) named(some uint64) []string {
	var l []string
	for i, name := range m.names {
		if some>>i&1 == 1 {
			l = append(l, name)
		}
	}
	return l
}

func (m *model) inOrder(some uint64) []string {
	l := m.named(some)
	slices.Sort(l)
	return l
}

// all: all that any of some nodes comes from.
func (m *model) all(some uint64) uint64 {
	var all uint64
	for i := range m.names {
		if some>>i&1 == 1 {
			all |= m.from[i]
		}
	}
	return all
}

// tips: those of some nodes from which no other one of them comes.
func (m *model) tips(some uint64) uint64 {
	tips := some
	for i := range m.names {
		for j := range m.names {
			if i != j && some>>i&1 == 1 && some>>j&1 == 1 && m.from[j]>>i&1 == 1 {
				tips &^= 1 << i
			}
		}
	}
	return tips
}

// graph: the same as a graph; the parents are told in any order, and more than once.
func (m *model) graph(t *testing.T, r *rand.Rand) *dag.Graph {
	t.Helper()
	g := dag.New()
	for i, name := range m.names {
		if e := g.Add(name, jumbled(r, m.named(m.parents[i]))...); e != api.OK {
			t.Fatalf("Add of %q: %v", name, e)
		}
	}
	return g
}

// jumbled: the same texts in any order, some of them more than once.
func jumbled(r *rand.Rand, l []string) []string {
	l = slices.Clone(l)
	for range r.Intn(3) {
		if len(l) > 0 {
			l = append(l, l[r.Intn(len(l))])
		}
	}
	r.Shuffle(len(l), func(i, j int) { l[i], l[j] = l[j], l[i] })
	return l
}

// held: whether a graph answers all of two nodes as the words say.
func (m *model) held(t *testing.T, g *dag.Graph) {
	t.Helper()
	for i, a := range m.names {
		answers(t, "Parents", g.Parents(a), m.inOrder(m.parents[i])...)
		for j, b := range m.names {
			if got := g.Comes(a, b); got != (m.from[i]>>j&1 == 1) {
				t.Errorf("Comes of %q from %q: %v", a, b, got)
			}
			answers(t, "Bases", g.Bases(a, b), m.inOrder(m.tips(m.from[i]&m.from[j]))...)
		}
	}
	if g.Len() != len(m.names) {
		t.Errorf("Len: %d, not %d", g.Len(), len(m.names))
	}
}

// ofSome: whether a graph answers all of some nodes, and of two lists of them, as the words say.
func (m *model) ofSome(t *testing.T, g *dag.Graph, r *rand.Rand, some, have uint64) {
	t.Helper()
	want, had := jumbled(r, append(m.named(some), "no node")), jumbled(r, append(m.named(have), "none"))
	answers(t, "Ancestors", g.Ancestors(want...), m.named(m.all(some))...)
	answers(t, "Tips", g.Tips(want...), m.inOrder(m.tips(some))...)
	answers(t, "Missing", g.Missing(want, had), m.named(m.all(some)&^m.all(have))...)
}

// TestAllSmallGraphs holds all graphs of at most five nodes against the words.
func TestAllSmallGraphs(t *testing.T) {
	r := rand.New(rand.NewSource(101))
	names := list("m", "b", "", "z/\xff", "a")
	for n := range 6 {
		edges := n * (n - 1) / 2
		for which := range uint64(1) << edges {
			m := &model{}
			for i := range n {
				m.add(names[i], which&(1<<i-1))
				which >>= i
			}
			g := m.graph(t, r)
			m.held(t, g)
			for some := range uint64(1) << n {
				for range 4 {
					m.ofSome(t, g, r, some, r.Uint64()&(1<<n-1))
				}
			}
			if t.Failed() {
				return
			}
		}
	}
}

// TestSomeGreaterGraphs holds graphs of up to sixty nodes against the words.
func TestSomeGreaterGraphs(t *testing.T) {
	r := rand.New(rand.NewSource(102))
	for range 150 {
		m := &model{}
		n, thin := 1+r.Intn(60), r.Intn(6)
		for i, name := range r.Perm(n) {
			parents := r.Uint64() & (1<<i - 1)
			for range thin {
				parents &= r.Uint64()
			}
			m.add(strconv.Itoa(name), parents)
		}
		g := m.graph(t, r)
		m.held(t, g)
		for range 100 {
			some, have := r.Uint64()&r.Uint64()&(1<<n-1), r.Uint64()&r.Uint64()&(1<<n-1)
			m.ofSome(t, g, r, some, have&r.Uint64())
			m.ofSome(t, g, r, 1<<r.Intn(n), have)
			m.ofSome(t, g, r, some, 1<<r.Intn(n))
		}
		if t.Failed() {
			return
		}
	}
}

// P10.1

func TestNew(t *testing.T) {
	g := dag.New()
	if g.Len() != 0 {
		t.Errorf("Len: %d", g.Len())
	}
	if g.Add("a") != api.OK || g.Len() != 1 || dag.New().Len() != 0 {
		t.Error("graphs aren't apart")
	}
	if dag.MaxNodes != 65536 {
		t.Errorf("MaxNodes is %d", dag.MaxNodes)
	}
}

func TestAddRefuses(t *testing.T) {
	g := diamond(t)
	for _, c := range []struct {
		node []string
		want api.Errno
	}{
		{list("a"), api.ErrTwice}, {list("a", "r"), api.ErrTwice}, {list("a", "no"), api.ErrTwice}, {list("a", "a"), api.ErrTwice}, {list("r"), api.ErrTwice},
		{list("n", "no"), api.ErrMissing}, {list("n", "a", "no"), api.ErrMissing}, {list("n", "no", "a"), api.ErrMissing}, {list("n", "n"), api.ErrMissing},
		{list("n", "a", "b", ""), api.ErrMissing}, {list("", ""), api.ErrMissing}, {list("n", "A"), api.ErrMissing}, {list("n", "a "), api.ErrMissing},
	} {
		for range 2 {
			if e := g.Add(c.node[0], c.node[1:]...); e != c.want {
				t.Errorf("Add of %q: %v, not %v", c.node, e, c.want)
			}
		}
	}
	// What was refused isn't there.
	if g.Len() != 6 || len(g.Parents("n")) != 0 || g.Comes("n", "n") || len(g.Ancestors("n", "no", "")) != 0 || len(g.Parents("r")) != 0 {
		t.Error("a call that was refused has changed something")
	}
	answers(t, "Parents", g.Parents("a"), "r")
	if g.Add("n", "alone") != api.OK || g.Add("no", "n") != api.OK || g.Len() != 8 {
		t.Error("Add behind one that was refused")
	}
}

func TestParents(t *testing.T) {
	g := added(t, list("b"), list("a.b"), list(""), list("a"), list("a/b"), list("\xff"), list("B"), list("x", "b", "a.b", "", "a", "\xff", "B", "a/b", "a", "b", "b"), list("y", "x", "b"))
	answers(t, "Parents", g.Parents("x"), "", "B", "a", "a.b", "a/b", "b", "\xff")
	answers(t, "Parents", g.Parents("y"), "b", "x")
	answers(t, "Parents of one without", g.Parents("b"))
	answers(t, "Parents of none", g.Parents("z"))
}

func TestFull(t *testing.T) {
	g := dag.New()
	for i := range dag.MaxNodes {
		var parents []string
		if i > 0 {
			parents = list(strconv.Itoa(i-1), strconv.Itoa(i/2))
		}
		if e := g.Add(strconv.Itoa(i), parents...); e != api.OK {
			t.Fatalf("Add of node %d: %v", i, e)
		}
	}
	for _, c := range []struct {
		node []string
		want api.Errno
	}{
		{list("7"), api.ErrTwice}, {list("7", "no"), api.ErrTwice}, {list("n", "no"), api.ErrMissing}, {list("n", "1", "no"), api.ErrMissing}, {list("n"), api.ErrFull}, {list("n", "1"), api.ErrFull},
	} {
		if e := g.Add(c.node[0], c.node[1:]...); e != c.want || g.Len() != dag.MaxNodes {
			t.Errorf("Add of %q: %v, not %v; Len: %d", c.node, e, c.want, g.Len())
		}
	}
	last := strconv.Itoa(dag.MaxNodes - 1)
	if len(g.Ancestors(last)) != dag.MaxNodes || !g.Comes(last, "0") || g.Comes("0", last) || g.Comes(last, "n") || len(g.Parents(last)) != 2 {
		t.Error("what the last one comes from")
	}
	answers(t, "Bases", g.Bases(last, "30000"), "30000")
	answers(t, "Tips", g.Tips(g.Ancestors(last)...), last)
	if l := g.Missing(list(last), list("30000", "n")); len(l) != dag.MaxNodes-30001 || l[0] != "30001" {
		t.Errorf("Missing: %d", len(l))
	}
}

// P10.2

func TestAncestors(t *testing.T) {
	g := diamond(t)
	answers(t, "Ancestors", g.Ancestors("x"), "r", "b", "a", "x")
	answers(t, "Ancestors", g.Ancestors("x", "y"), "r", "b", "a", "y", "x")
	answers(t, "Ancestors", g.Ancestors("alone", "a", "r", "a", "no"), "r", "a", "alone")
	answers(t, "Ancestors of the first", g.Ancestors("r"), "r")
	answers(t, "Ancestors of none", g.Ancestors())
	answers(t, "Ancestors of no node", g.Ancestors("no", ""))
	answers(t, "Ancestors in an empty graph", dag.New().Ancestors("a", ""))
}

func TestComes(t *testing.T) {
	g := diamond(t)
	for _, c := range []struct {
		node, from string
		want       bool
	}{
		{"x", "x", true}, {"x", "a", true}, {"x", "r", true}, {"a", "r", true}, {"r", "r", true}, {"r", "a", false}, {"a", "b", false}, {"x", "y", false},
		{"alone", "r", false}, {"x", "alone", false}, {"x", "no", false}, {"no", "x", false}, {"no", "no", false}, {"", "", false}, {"", "r", false}, {"r", "", false},
	} {
		if got := g.Comes(c.node, c.from); got != c.want {
			t.Errorf("Comes of %q from %q: %v", c.node, c.from, got)
		}
	}
	if dag.New().Comes("", "") {
		t.Error("Comes in an empty graph")
	}
}

// P10.3

func TestTips(t *testing.T) {
	g := diamond(t)
	answers(t, "Tips", g.Tips("r", "a", "b", "a"), "a", "b")
	answers(t, "Tips", g.Tips("y", "x", "r", "a", "b", "alone"), "alone", "x", "y")
	answers(t, "Tips", g.Tips("x", "r"), "x")
	answers(t, "Tips of one twice", g.Tips("r", "r"), "r")
	answers(t, "Tips of some that are none", g.Tips("no", "r", "", "no"), "r")
	answers(t, "Tips of none", g.Tips())
	answers(t, "Tips of no node", g.Tips("no"))
}

func TestBases(t *testing.T) {
	g := diamond(t)
	for _, c := range []struct {
		a, b string
		want []string
	}{
		{"x", "y", list("a", "b")}, {"y", "x", list("a", "b")}, {"a", "b", list("r")}, {"x", "a", list("a")}, {"a", "x", list("a")}, {"x", "x", list("x")}, {"r", "r", list("r")},
		{"x", "r", list("r")}, {"x", "alone", nil}, {"x", "no", nil}, {"no", "x", nil}, {"no", "no", nil}, {"", "", nil},
	} {
		answers(t, "Bases of "+c.a+" and "+c.b, g.Bases(c.a, c.b), c.want...)
	}
	answers(t, "Bases in an empty graph", dag.New().Bases("", ""))
	two := added(t, list("a"), list("b"), list("x", "a", "b"), list("y", "a", "b"))
	answers(t, "Bases of the example", two.Bases("x", "y"), "a", "b")
}

// P10.4

func TestMissing(t *testing.T) {
	g := diamond(t)
	for _, c := range []struct {
		want, have, answer []string
	}{
		{list("x"), list("a"), list("b", "x")}, {list("x", "y"), list("r"), list("b", "a", "y", "x")}, {list("x"), list("y"), list("x")}, {list("x"), list("x"), nil},
		{list("a"), list("x"), nil}, {list("x"), nil, list("r", "b", "a", "x")}, {nil, list("x"), nil}, {nil, nil, nil}, {list("no"), nil, nil}, {list("b"), list("no"), list("r", "b")},
		{list("x", "alone", "x"), list("a", "b", "no", "a"), list("x", "alone")}, {list("alone", "b"), list("a"), list("b", "alone")},
	} {
		answers(t, "Missing", g.Missing(c.want, c.have), c.answer...)
	}
	answers(t, "Missing in an empty graph", dag.New().Missing(list("a", ""), list("")))
}

// P1

func TestWideGraphsEnd(t *testing.T) {
	begin := time.Now()
	g := dag.New()
	var all []string
	for i := range 60000 {
		all = append(all, strconv.Itoa(i))
		g.Add(all[i])
	}
	many := slices.Concat(all, all, all)
	for i := range 20 {
		if e := g.Add("w"+strconv.Itoa(i), many...); e != api.OK {
			t.Fatal(e)
		}
	}
	if len(g.Parents("w1")) != 60000 || len(g.Bases("w1", "w2")) != 60000 || len(g.Tips(many...)) != 60000 || len(g.Tips(append(many, "w3", "w4")...)) != 2 || len(g.Ancestors(many...)) != 60000 {
		t.Error("a wide graph")
	}
	for range 1000 {
		if !g.Comes("w19", "7") || g.Comes("w18", "w19") {
			t.Error("Comes")
		}
	}
	if time.Since(begin) > time.Minute {
		t.Error("it took too long")
	}
}

func TestManyWaysEnd(t *testing.T) {
	// Each pair comes from both of the pair ahead of it: there are 2^3000 ways down.
	g := added(t, list("a0"), list("b0"))
	for i := range 3000 {
		above := list("a"+strconv.Itoa(i), "b"+strconv.Itoa(i))
		next := strconv.Itoa(i + 1)
		if g.Add("a"+next, above...) != api.OK || g.Add("b"+next, above...) != api.OK {
			t.Fatal("Add")
		}
	}
	if !g.Comes("a3000", "b0") || g.Comes("a3000", "b3000") || len(g.Ancestors("a3000")) != 6001 {
		t.Error("what the last one comes from")
	}
	answers(t, "Bases", g.Bases("a3000", "b3000"), "a2999", "b2999")
	answers(t, "Missing", g.Missing(list("a3000"), list("b3000")), "a3000")
}

func TestLongTextsEnd(t *testing.T) {
	long := strings.Repeat("n", 1<<20)
	g := added(t, list(long+"a"), list(long+"b"), list("x", long+"b", long+"a"))
	answers(t, "Parents", g.Parents("x"), long+"a", long+"b")
	if g.Add(long, long+"c") != api.ErrMissing || g.Add(long+"a") != api.ErrTwice || !g.Comes("x", long+"a") || g.Comes("x", long) {
		t.Error("long texts")
	}
}

// P2

func TestListsAreLeftAsTheyAre(t *testing.T) {
	g := diamond(t)
	room := list("y", "b", "x", "b", "a", "room", "more")
	before := slices.Clone(room)
	l := room[:5]
	g.Add("n", l...)
	g.Add("m", append(l[:5:5], "no")...)
	g.Ancestors(l...)
	g.Tips(l...)
	g.Missing(l, l)
	g.Missing(l, nil)
	g.Add("n", l...)
	answers(t, "a list that was handed in", room, before...)
	clear(room)
	answers(t, "Parents of lists that were kept", g.Parents("n"), "a", "b", "x", "y")
}

func TestAnswersAreNew(t *testing.T) {
	g := diamond(t)
	ask := func() [][]string {
		return [][]string{g.Parents("x"), g.Ancestors("x"), g.Bases("x", "y"), g.Bases("x", "x"), g.Tips("a", "b"), g.Missing(list("x"), list("r")), g.Missing(list("x"), nil)}
	}
	first, second, before := ask(), ask(), ask()
	for _, l := range first {
		l = l[:cap(l)]
		for i := range l {
			l[i] = "spoiled"
		}
	}
	for i, l := range ask() {
		answers(t, "an answer behind one that was written over", l, before[i]...)
		answers(t, "an answer beside one that was written over", second[i], before[i]...)
	}
}
