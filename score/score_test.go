package score_test

import (
	"math"
	"math/rand"
	"slices"
	"strconv"
	"strings"
	"testing"

	"towline/api"
	"towline/path"
	"towline/score"
	"towline/stamp"
)

var (
	minusZero = math.Copysign(0, -1)
	inf       = math.Inf(1)
	nan       = math.Float64frombits(0x7ff8000000000000)
	oddNaN    = math.Float64frombits(0xfff8000000000123)
)

// rising: numbers in their order; what is no number in some forms.
func rising() []float64 {
	return []float64{-inf, -math.MaxFloat64, -1.5, -1, -math.SmallestNonzeroFloat64, minusZero, 0, math.SmallestNonzeroFloat64, 0.5, 1, 2, math.MaxFloat64, inf, nan, oddNaN, math.Float64frombits(0x7ff0000000000001)}
}

// same: to the bit.
func same(a, b float64) bool { return math.Float64bits(a) == math.Float64bits(b) }

func letters(s string) []string { return strings.Split(s, "") }

// unlike: so many lines, none twice.
func unlike(n int) []string {
	l := make([]string, n)
	for i := range l {
		l[i] = strconv.Itoa(i)
	}
	return l
}

// P12.1

func TestAlike(t *testing.T) {
	for _, c := range []struct {
		a, b []string
		want float64
	}{
		{letters("ab"), letters("ac"), 0.5}, {letters("ab"), letters("ab"), 1}, {letters("ab"), letters("cd"), 0}, {letters("ab"), letters("ba"), 0.5},
		{nil, nil, nan}, {nil, letters("a"), 0}, {letters("a"), nil, 0}, {letters("abc"), letters("b"), 0.5}, {[]string{""}, []string{""}, 1},
		{letters("abc"), letters("axc"), 2.0 / 3}, {letters("aab"), letters("ab"), 0.8}, {letters("a"), letters("aaaaa"), 1.0 / 3}, {[]string{"a\n"}, []string{"a"}, 0},
		{unlike(1024), unlike(1024), 1}, {unlike(1 << 20), unlike(1), 2.0 / (1<<20 + 1)}, {unlike(1<<20 + 1), nil, 0}, {nil, unlike(1<<20 + 1), 0},
	} {
		if f, e := score.Alike(c.a, c.b); e != api.OK || !same(f, c.want) {
			t.Errorf("Alike of %.100q and %.100q: %v, %v, not %v", c.a, c.b, f, e, c.want)
		}
	}
	for _, n := range [][2]int{{1024, 1025}, {1025, 1024}, {1, 1<<20 + 1}, {1<<20 + 1, 1}} {
		if f, e := score.Alike(unlike(n[0]), unlike(n[1])); e != api.ErrLong || !same(f, 0) {
			t.Errorf("Alike of %d and %d lines: %v, %v", n[0], n[1], f, e)
		}
	}
}

// alikeOf: the same from the words, by rows.
func alikeOf(a, b []string) float64 {
	row := make([]int, len(b)+1)
	for _, x := range a {
		next := make([]int, len(b)+1)
		for j, y := range b {
			next[j+1] = max(row[j+1], next[j])
			if x == y {
				next[j+1] = row[j] + 1
			}
		}
		row = next
	}
	if len(a)+len(b) == 0 {
		return nan
	}
	return 2 * float64(row[len(b)]) / float64(len(a)+len(b))
}

// anyLines: at most n lines of a few.
func anyLines(r *rand.Rand, n int) []string {
	var l []string
	for range r.Intn(n + 1) {
		l = append(l, []string{"", "a", "b\n", "\xff"}[r.Intn(4)])
	}
	return l
}

func TestAlikeOfManyTexts(t *testing.T) {
	r := rand.New(rand.NewSource(121))
	for range 5000 {
		a, b := anyLines(r, 9), anyLines(r, 9)
		if f, e := score.Alike(a, b); e != api.OK || !same(f, alikeOf(a, b)) {
			t.Fatalf("Alike of %q and %q: %v, %v, not %v", a, b, f, e, alikeOf(a, b))
		}
	}
}

// P12.2

// texts: of rows of a path, a blank, and a line for each letter behind it.
func texts(rows ...string) []score.Text {
	var l []score.Text
	for _, row := range rows {
		p, lines, _ := strings.Cut(row, " ")
		x := score.Text{Path: p}
		if lines != "" {
			x.Lines = letters(lines)
		}
		l = append(l, x)
	}
	return l
}

func sameMoves(a, b []score.Move) bool {
	return slices.EqualFunc(a, b, func(m, n score.Move) bool { return m.From == n.From && m.To == n.To && same(m.Score, n.Score) })
}

func moves(t *testing.T, gone, come []score.Text, least float64, want ...score.Move) {
	t.Helper()
	if got, e := score.Moves(gone, come, least); e != api.OK || !sameMoves(got, want) {
		t.Errorf("Moves of %.200q and %.200q, at least %v: %v, %v, not %v", gone, come, least, got, e, want)
	}
}

func TestMoves(t *testing.T) {
	gone, come := texts("x ab", "w ac"), texts("y ac", "z q")
	moves(t, gone, come, 0.5, score.Move{"w", "y", 1})
	moves(t, gone, come, 0, score.Move{"w", "y", 1}, score.Move{"x", "z", 0})
	moves(t, come, gone, 0, score.Move{"y", "w", 1}, score.Move{"z", "x", 0})
	moves(t, nil, nil, -inf)
	moves(t, gone, nil, -inf)
	moves(t, nil, come, -inf)
	// Each path once: the second best of x is left out, as y is taken.
	moves(t, texts("x abcd", "v abce"), texts("y abcd", "z abxy"), 0, score.Move{"x", "y", 1}, score.Move{"v", "z", 0.5})
	// A path on one side doesn't count on the other.
	moves(t, texts("x a", "y b"), texts("y a", "x b"), 1, score.Move{"x", "y", 1}, score.Move{"y", "x", 1})
	moves(t, texts("x a"), texts("x a"), 1, score.Move{"x", "x", 1})
}

func TestMovesThatAreAsAlike(t *testing.T) {
	all := texts("b a", "a.b a", "a/b a", "a a")
	moves(t, all, all, 1, score.Move{"a", "a", 1}, score.Move{"a/b", "a/b", 1}, score.Move{"a.b", "a.b", 1}, score.Move{"b", "b", 1})
	// First by the path of gone, and then by that of come.
	moves(t, texts("b a", "a a"), texts("z a", "y a", "x a"), 1, score.Move{"a", "x", 1}, score.Move{"b", "y", 1})
	moves(t, texts("x a"), texts("a.b a", "a/b a"), 1, score.Move{"x", "a/b", 1})
	moves(t, texts("a.b a", "a/b a"), texts("x a"), 1, score.Move{"a/b", "x", 1})
	// The score counts ahead of the paths.
	moves(t, texts("a ab", "b ac"), texts("x ac"), 0, score.Move{"b", "x", 1})
	moves(t, texts("a ab"), texts("x ac", "y ab"), 0, score.Move{"a", "y", 1})
}

func TestMovesOfAPathTwice(t *testing.T) {
	moves(t, texts("a x", "a y"), texts("p x", "q y"), 0, score.Move{"a", "p", 1})
	moves(t, texts("p x", "q y"), texts("a x", "a y"), 0, score.Move{"p", "a", 1})
	moves(t, texts("a xz", "a x"), texts("p x"), 0, score.Move{"a", "p", 1})
	moves(t, texts("a x", "a x"), texts("p x", "p x"), 0, score.Move{"a", "p", 1})
	moves(t, texts(" x", "// x"), texts("\x00 x", "/ x"), 1, score.Move{"", "/", 1}, score.Move{"//", "\x00", 1})
}

func TestMovesByTheLeastScore(t *testing.T) {
	// Scores: no number of e and f, 1 of x and y, 0 of others.
	gone, come := texts("e", "x a"), texts("f", "y a")
	ef, xy, both := score.Move{"e", "f", nan}, score.Move{"x", "y", 1}, []score.Move{{"e", "f", nan}, {"x", "y", 1}}
	for _, least := range []float64{-inf, -1, minusZero, 0, 0.5, 1} {
		moves(t, gone, come, least, both...)
	}
	for _, least := range []float64{math.Nextafter(1, 2), 2, inf, nan, oddNaN} {
		moves(t, gone, come, least, ef)
	}
	moves(t, gone[1:], come[1:], 1, xy)
	moves(t, gone[1:], come[1:], nan)
	zero := score.Move{"x", "z", 0}
	moves(t, texts("x a"), texts("z b"), minusZero, zero)
	moves(t, texts("x a"), texts("z b"), 0, zero)
	moves(t, texts("x a"), texts("z b"), math.SmallestNonzeroFloat64)
	moves(t, texts("x ab"), texts("z bc"), 0.5, score.Move{"x", "z", 0.5})
	moves(t, texts("x ab"), texts("z bc"), math.Nextafter(0.5, 1))
}

func TestMovesRefuses(t *testing.T) {
	if score.MaxTexts != 64 {
		t.Error("MaxTexts")
	}
	numbered := func(n int) []score.Text {
		var l []score.Text
		for i := range n {
			l = append(l, score.Text{Path: strconv.Itoa(1000 + i), Lines: []string{strconv.Itoa(i)}})
		}
		return l
	}
	long, longer := score.Text{Path: "long", Lines: unlike(1024)}, score.Text{Path: "longer", Lines: unlike(1025)}
	refused := func(gone, come []score.Text, least float64) {
		t.Helper()
		if got, e := score.Moves(gone, come, least); e != api.ErrLong || len(got) != 0 {
			t.Errorf("Moves of %d and %d texts: %v, %v", len(gone), len(come), got, e)
		}
	}
	refused(numbered(65), nil, 0)
	refused(nil, numbered(65), 0)
	refused(numbered(65), numbered(65), nan)
	refused([]score.Text{long}, []score.Text{longer}, 0)
	// The error counts also where others would be chosen, and whatever is asked for.
	refused([]score.Text{{Path: "a"}, long}, []score.Text{{Path: "a"}, longer}, nan)
	if got, e := score.Moves([]score.Text{long}, []score.Text{long, {Path: "a"}}, 0.5); e != api.OK || len(got) != 1 {
		t.Errorf("Moves of long texts: %v, %v", got, e)
	}
	l := numbered(64)
	if got, e := score.Moves(l, l, 0.5); e != api.OK || len(got) != 64 || got[63] != (score.Move{"1063", "1063", 1}) {
		t.Errorf("Moves of 64 texts: %v, %v", got, e)
	}
	if got, e := score.Moves(numbered(64), nil, 0); e != api.OK || len(got) != 0 {
		t.Errorf("Moves of 64 texts and none: %v, %v", got, e)
	}
}

// movesOf: the same from the words: again and again the first.
func movesOf(gone, come []score.Text, least float64) []score.Move {
	var all, out []score.Move
	for _, g := range gone {
		for _, c := range come {
			f := alikeOf(g.Lines, c.Lines)
			if stamp.Key(f) >= stamp.Key(least) {
				all = append(all, score.Move{From: g.Path, To: c.Path, Score: f})
			}
		}
	}
	for len(all) > 0 {
		best := all[0]
		for _, m := range all[1:] {
			f, g := stamp.Key(m.Score), stamp.Key(best.Score)
			p, q := path.Compare(m.From, best.From), path.Compare(m.To, best.To)
			if f > g || f == g && (p < 0 || p == 0 && q < 0) {
				best = m
			}
		}
		out = append(out, best)
		all = slices.DeleteFunc(all, func(m score.Move) bool { return m.From == best.From || m.To == best.To })
	}
	return out
}

func TestMovesOfManyTexts(t *testing.T) {
	r := rand.New(rand.NewSource(122))
	some := func() []score.Text {
		var l []score.Text
		for range r.Intn(9) {
			l = append(l, score.Text{Path: []string{"a", "a/b", "a.b", "b", "", "c/d", "c!", "//"}[r.Intn(8)], Lines: anyLines(r, 4)})
		}
		return l
	}
	for range 5000 {
		gone, come, least := some(), some(), rising()[r.Intn(16)]
		want := movesOf(gone, come, least)
		if got, e := score.Moves(gone, come, least); e != api.OK || !sameMoves(got, want) {
			t.Fatalf("Moves of %q and %q, at least %v: %v, %v, not %v", gone, come, least, got, e, want)
		}
	}
}

// P12.3

func TestTotal(t *testing.T) {
	for _, c := range []struct {
		list   []float64
		want   float64
		passed int
	}{
		{nil, 0, 0}, {[]float64{1, nan, 2}, 3, 1}, {[]float64{nan, oddNaN}, 0, 2}, {[]float64{minusZero}, 0, 0}, {[]float64{minusZero, minusZero, nan}, 0, 1},
		{[]float64{-1.5}, -1.5, 0}, {[]float64{inf, 1}, inf, 0}, {[]float64{-inf, nan, -1}, -inf, 1},
		{[]float64{inf, -inf}, nan, 0}, {[]float64{-inf, inf, 1, oddNaN}, nan, 1},
		// From the left, each step rounded.
		{[]float64{1e100, 1, -1e100}, 0, 0}, {[]float64{1e100, -1e100, 1}, 1, 0}, {[]float64{1, 1e100, -1e100}, 0, 0},
		{[]float64{0.1, 0.2, 0.3}, 0.6000000000000001, 0}, {[]float64{0.3, 0.2, 0.1}, 0.6, 0},
		{[]float64{math.MaxFloat64, math.MaxFloat64, -math.MaxFloat64}, inf, 0}, {[]float64{math.MaxFloat64, -math.MaxFloat64, math.MaxFloat64}, math.MaxFloat64, 0},
	} {
		if f, n := score.Total(c.list...); !same(f, c.want) || n != c.passed {
			t.Errorf("Total of %v: %v, %d, not %v, %d", c.list, f, n, c.want, c.passed)
		}
	}
}

func TestMiddle(t *testing.T) {
	for _, c := range []struct {
		list []float64
		want float64
	}{
		{[]float64{3, -inf, 1, 2}, 1}, {[]float64{7}, 7}, {[]float64{2, 1}, 1}, {[]float64{3, 1, 2}, 2}, {[]float64{0, minusZero}, minusZero}, {[]float64{0, minusZero, 0}, 0},
		{[]float64{oddNaN}, nan}, {[]float64{oddNaN, inf}, inf}, {[]float64{nan, 5, oddNaN}, nan}, {[]float64{nan, -inf, inf}, inf}, {[]float64{1, 1, 1, 1}, 1},
		{[]float64{5, 4, 3, 2, 1}, 3}, {[]float64{6, 5, 4, 3, 2, 1}, 3}, {[]float64{minusZero, 0, -1, 1}, minusZero},
	} {
		if f, ok := score.Middle(c.list...); !ok || !same(f, c.want) {
			t.Errorf("Middle of %v: %v, %v, not %v", c.list, f, ok, c.want)
		}
	}
	if f, ok := score.Middle(); ok || !same(f, 0) {
		t.Errorf("Middle of nothing: %v, %v", f, ok)
	}
	r := rand.New(rand.NewSource(123))
	for n := 1; n <= 13; n++ {
		l := rising()[:n]
		want := l[(n-1)/2]
		r.Shuffle(n, func(i, j int) { l[i], l[j] = l[j], l[i] })
		if f, ok := score.Middle(l...); !ok || !same(f, want) {
			t.Errorf("Middle of %v: %v, %v, not %v", l, f, ok, want)
		}
	}
}

func TestWithin(t *testing.T) {
	all := rising()
	for i, low := range all {
		for j, high := range all {
			for k, f := range all {
				// All that is no number, from 13 on, has one place.
				low3, high3, place := min(i, 13), min(j, 13), min(k, 13)
				got, e := score.Within(f, low, high)
				if low3 > high3 {
					if e != api.ErrRange || !same(got, 0) {
						t.Errorf("Within(%v, %v, %v): %v, %v", f, low, high, got, e)
					}
					continue
				}
				if want := all[min(max(place, low3), high3)]; e != api.OK || !same(got, want) {
					t.Errorf("Within(%v, %v, %v): %v, %v, not %v", f, low, high, got, e, want)
				}
			}
		}
	}
}

// P2

func TestArgumentsAreLeftAsTheyAre(t *testing.T) {
	numbers := []float64{3, nan, 1, minusZero, 2, 77}
	keep := slices.Clone(numbers)
	score.Middle(numbers[:5]...)
	score.Total(numbers[:5]...)
	if !slices.EqualFunc(numbers, keep, same) {
		t.Errorf("numbers: %v", numbers)
	}
	gone, come := texts("b ab", "a ab", "c x", "room r"), texts("z ab", "y ab", "x x", "room r")
	keepGone, keepCome := texts("b ab", "a ab", "c x", "room r"), texts("z ab", "y ab", "x x", "room r")
	got, _ := score.Moves(gone[:3], come[:3], 0)
	again, _ := score.Moves(gone[:3], come[:3], 0)
	want := slices.Clone(again)
	score.Alike(gone[0].Lines, come[0].Lines)
	got = got[:cap(got)]
	for i := range got {
		got[i] = score.Move{From: "spoiled"}
	}
	sameText := func(x, y score.Text) bool { return x.Path == y.Path && slices.Equal(x.Lines, y.Lines) }
	if !slices.EqualFunc(gone, keepGone, sameText) || !slices.EqualFunc(come, keepCome, sameText) {
		t.Errorf("texts: %q, %q", gone, come)
	}
	if !sameMoves(again, want) {
		t.Error("answers share memory")
	}
}
