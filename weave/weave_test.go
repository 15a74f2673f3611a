package weave_test

import (
	"math"
	"math/rand"
	"slices"
	"strconv"
	"strings"
	"testing"

	"towline/api"
	"towline/lines"
	"towline/weave"
)

func list(s ...string) []string { return s }

// letters: a line for each letter of a text.
func letters(s string) []string { return strings.Split(s, "") }

// part: one whose lines are letters.
func part(kind int, base, ours, theirs string) weave.Part {
	return weave.Part{Kind: kind, Base: letters(base), Ours: letters(ours), Theirs: letters(theirs)}
}

func same(p, q weave.Part) bool {
	return p.Kind == q.Kind && slices.Equal(p.Base, q.Base) && slices.Equal(p.Ours, q.Ours) && slices.Equal(p.Theirs, q.Theirs)
}

func sameParts(a, b []weave.Part) bool { return slices.EqualFunc(a, b, same) }

// lists: all lists of at most n of these lines.
func lists(of []string, n int) [][]string {
	all := [][]string{nil}
	level := all
	for range n {
		var next [][]string
		for _, l := range level {
			for _, s := range of {
				next = append(next, append(slices.Clone(l), s))
			}
		}
		all = append(all, next...)
		level = next
	}
	return all
}

// anyList: at most n lines of a few.
func anyList(r *rand.Rand, n int) []string {
	some := []string{"a", "a\n", "\n", "b\n", "", "\x00", "\xff\xfe", "a\nb\n"}
	some = some[:1+r.Intn(len(some))]
	l := make([]string, r.Intn(n+1))
	for i := range l {
		l[i] = some[r.Intn(len(some))]
	}
	return l
}

// changed: a list with some lines left out, put in, or made others.
func changed(r *rand.Rand, l []string) []string {
	var all []string
	for _, s := range l {
		switch r.Intn(12) {
		case 0:
			all = append(all, "new\n", s)
		case 1:
			all = append(all, "x\n")
		case 2:
		default:
			all = append(all, s)
		}
	}
	return all
}

// P8.1

func TestKinds(t *testing.T) {
	if weave.Same != 0 || weave.Ours != 1 || weave.Theirs != 2 || weave.Both != 3 || weave.Conflict != 4 {
		t.Error("the kinds")
	}
}

// standing: each line of the base that is in a pair, and its line of the other list.
func standing(base, other []string) map[int]int {
	pairs, _ := lines.Pairs(base, other)
	m := map[int]int{}
	for _, p := range pairs {
		m[p[0]] = p[1]
	}
	return m
}

func kindOf(p weave.Part) int {
	base, ours, theirs := strings.Join(quoted(p.Base), ","), strings.Join(quoted(p.Ours), ","), strings.Join(quoted(p.Theirs), ",")
	if base == ours && base == theirs {
		return weave.Same
	}
	if base == theirs {
		return weave.Ours
	}
	if base == ours {
		return weave.Theirs
	}
	if ours == theirs {
		return weave.Both
	}
	return weave.Conflict
}

func quoted(l []string) []string {
	var all []string
	for _, s := range l {
		all = append(all, strconv.Quote(s))
	}
	return all
}

// mergeOf: the same from the words, by the places of all that stands fast.
func mergeOf(base, ours, theirs []string) []weave.Part {
	o, t := standing(base, ours), standing(base, theirs)
	var all, parts []weave.Part
	var at [3]int
	upTo := func(i, j, k int) {
		all = append(all, weave.Part{Base: base[at[0]:i], Ours: ours[at[1]:j], Theirs: theirs[at[2]:k]})
		at = [3]int{i, j, k}
	}
	for i := range base {
		j, inOurs := o[i]
		k, inTheirs := t[i]
		if inOurs && inTheirs {
			upTo(i, j, k)
			upTo(i+1, j+1, k+1)
		}
	}
	upTo(len(base), len(ours), len(theirs))
	for _, p := range all {
		p.Kind = kindOf(p)
		n := len(parts)
		switch {
		case len(p.Base)+len(p.Ours)+len(p.Theirs) == 0:
		case n > 0 && p.Kind == weave.Same && parts[n-1].Kind == weave.Same:
			q := parts[n-1]
			parts[n-1] = weave.Part{Kind: weave.Same, Base: slices.Concat(q.Base, p.Base), Ours: slices.Concat(q.Ours, p.Ours), Theirs: slices.Concat(q.Theirs, p.Theirs)}
		default:
			parts = append(parts, p)
		}
	}
	return parts
}

func merge(t *testing.T, base, ours, theirs []string, want []weave.Part) {
	t.Helper()
	got, e := weave.Merge(base, ours, theirs)
	if e != api.OK || !sameParts(got, want) {
		t.Fatalf("Merge of %q, %q, %q: %v, %v, not %v", base, ours, theirs, got, e, want)
	}
}

func TestMerge(t *testing.T) {
	for _, c := range []struct {
		base, ours, theirs string
		want               []weave.Part
	}{
		{"", "", "", nil},
		{"abc", "abc", "abc", []weave.Part{part(weave.Same, "abc", "abc", "abc")}},
		{"abc", "xbc", "aby", []weave.Part{
			part(weave.Ours, "a", "x", "a"), part(weave.Same, "b", "b", "b"), part(weave.Theirs, "c", "c", "y"),
		}},
		{"a", "x", "y", []weave.Part{part(weave.Conflict, "a", "x", "y")}},
		{"a", "x", "x", []weave.Part{part(weave.Both, "a", "x", "x")}},
		{"a", "x", "a", []weave.Part{part(weave.Ours, "a", "x", "a")}},
		{"a", "a", "x", []weave.Part{part(weave.Theirs, "a", "a", "x")}},
		// Nothing in one list, or in two.
		{"", "a", "", []weave.Part{part(weave.Ours, "", "a", "")}},
		{"", "", "a", []weave.Part{part(weave.Theirs, "", "", "a")}},
		{"", "a", "a", []weave.Part{part(weave.Both, "", "a", "a")}},
		{"", "a", "b", []weave.Part{part(weave.Conflict, "", "a", "b")}},
		{"a", "", "", []weave.Part{part(weave.Both, "a", "", "")}},
		{"a", "", "a", []weave.Part{part(weave.Ours, "a", "", "a")}},
		{"a", "a", "", []weave.Part{part(weave.Theirs, "a", "a", "")}},
		{"a", "", "x", []weave.Part{part(weave.Conflict, "a", "", "x")}},
		{"a", "x", "", []weave.Part{part(weave.Conflict, "a", "x", "")}},
		// Ahead of the first line that stands fast, between two, and behind the last.
		{"ab", "xab", "ab", []weave.Part{part(weave.Ours, "", "x", ""), part(weave.Same, "ab", "ab", "ab")}},
		{"ab", "ab", "axb", []weave.Part{part(weave.Same, "a", "a", "a"), part(weave.Theirs, "", "", "x"), part(weave.Same, "b", "b", "b")}},
		{"ab", "abx", "aby", []weave.Part{part(weave.Same, "ab", "ab", "ab"), part(weave.Conflict, "", "x", "y")}},
		{"abcd", "abd", "abxd", []weave.Part{part(weave.Same, "ab", "ab", "ab"), part(weave.Conflict, "c", "", "x"), part(weave.Same, "d", "d", "d")}},
		// What stands side by side with nothing fast between is one part: each side changed another line.
		{"ab", "xb", "ay", []weave.Part{part(weave.Conflict, "ab", "xb", "ay")}},
		// A line that just one of them has in a pair doesn't stand fast.
		{"abc", "axc", "ab", []weave.Part{part(weave.Same, "a", "a", "a"), part(weave.Conflict, "bc", "xc", "b")}},
		// The parts hang on which of the alike lines are pairs: the first a's.
		{"aa", "a", "aba", []weave.Part{part(weave.Same, "a", "a", "a"), part(weave.Conflict, "a", "", "ba")}},
	} {
		// No line is named by nothing: an empty text has no letters.
		merge(t, letters(c.base), letters(c.ours), letters(c.theirs), c.want)
	}
	merge(t, list("", "a"), list("", "b"), list("", "a"), []weave.Part{
		{Kind: weave.Same, Base: list(""), Ours: list(""), Theirs: list("")}, {Kind: weave.Ours, Base: list("a"), Ours: list("b"), Theirs: list("a")},
	})
	merge(t, nil, nil, list(""), []weave.Part{{Kind: weave.Theirs, Theirs: list("")}})
	merge(t, list("a\n"), list("a"), list("a\n"), []weave.Part{{Kind: weave.Ours, Base: list("a\n"), Ours: list("a"), Theirs: list("a\n")}})
	// Lines that are alike one behind the other, but not one by one.
	merge(t, list("a", "b"), list("ab"), list("a", "b"), []weave.Part{{Kind: weave.Ours, Base: list("a", "b"), Ours: list("ab"), Theirs: list("a", "b")}})
}

// whole: the parts' lists are the three lists, and their kinds are as they must be.
func whole(t *testing.T, parts []weave.Part, base, ours, theirs []string) {
	t.Helper()
	var b, o, r []string
	for i, p := range parts {
		b, o, r = append(b, p.Base...), append(o, p.Ours...), append(r, p.Theirs...)
		if p.Kind != kindOf(p) || len(p.Base)+len(p.Ours)+len(p.Theirs) == 0 {
			t.Fatalf("part %d: %v", i, p)
		}
		if i > 0 && (p.Kind == weave.Same) == (parts[i-1].Kind == weave.Same) {
			t.Fatalf("parts side by side: %v", parts)
		}
	}
	if !slices.Equal(b, base) || !slices.Equal(o, ours) || !slices.Equal(r, theirs) {
		t.Fatalf("of %q, %q, %q: %v", base, ours, theirs, parts)
	}
}

func TestMergeOfAllShortLists(t *testing.T) {
	for _, all := range [][][]string{lists(list("a", ""), 4), lists(list("a", "b", "a\n"), 3)} {
		for _, base := range all {
			for _, ours := range all {
				for _, theirs := range all {
					want := mergeOf(base, ours, theirs)
					merge(t, base, ours, theirs, want)
					whole(t, want, base, ours, theirs)
				}
			}
		}
	}
}

func TestMergeOfLongerLists(t *testing.T) {
	r := rand.New(rand.NewSource(81))
	kinds := map[int]int{}
	for range 4000 {
		base := anyList(r, 30)
		if r.Intn(2) == 0 {
			for i := range base {
				base[i] += strconv.Itoa(r.Intn(20))
			}
		}
		ours, theirs := changed(r, base), changed(r, base)
		if r.Intn(4) == 0 {
			ours = anyList(r, 30)
		}
		want := mergeOf(base, ours, theirs)
		merge(t, base, ours, theirs, want)
		whole(t, want, base, ours, theirs)
		for _, p := range want {
			kinds[p.Kind]++
		}
	}
	for k := range 5 {
		if kinds[k] < 200 {
			t.Errorf("just %d parts of kind %d", kinds[k], k)
		}
	}
}

// unlike: so many lines, none twice.
func unlike(n int, name string) []string {
	l := make([]string, n)
	for i := range l {
		l[i] = name + strconv.Itoa(i)
	}
	return l
}

func TestMergeOfTooManyLines(t *testing.T) {
	few, some, many := unlike(100, "x"), unlike(1024, "x"), unlike(1025, "x")
	for _, c := range [][3][]string{
		{some, many, few}, {some, few, many}, {many, many, few}, {many, few, many}, {many, many, many}, {many, nil, some}, {many, some, nil},
	} {
		if p, e := weave.Merge(c[0], c[1], c[2]); e != api.ErrLong || len(p) != 0 {
			t.Errorf("Merge of %d, %d, %d lines: %d, %v", len(c[0]), len(c[1]), len(c[2]), len(p), e)
		}
	}
	// Ours and theirs aren't held against each other.
	for _, c := range [][3][]string{{some, some, some}, {few, many, many}, {nil, many, many}, {unlike(1, "x"), unlike(1<<20, "x"), unlike(1<<20, "x")}} {
		p, e := weave.Merge(c[0], c[1], c[2])
		if e != api.OK {
			t.Errorf("Merge of %d, %d, %d lines: %v", len(c[0]), len(c[1]), len(c[2]), e)
		}
		whole(t, p, c[0], c[1], c[2])
	}
}

// P8.2

// textOf: the same from the words: first all lines with what must be behind them, a conflict's lists one by one.
func textOf(parts []weave.Part, ours, theirs string) ([]string, bool) {
	var all []string
	conflicts := 0
	mark := func(s string) { all = append(all, s+string(rune(10))) }
	ended := func(l []string) {
		for i, s := range l {
			if i == len(l)-1 && (s == "" || s[len(s)-1] != 10) {
				s += string(rune(10))
			}
			all = append(all, s)
		}
	}
	for _, p := range parts {
		if p.Kind == 0 || p.Kind == 1 || p.Kind == 3 {
			all = append(all, p.Ours...)
		} else if p.Kind == 2 {
			all = append(all, p.Theirs...)
		} else {
			conflicts++
			mark("<<<<<<< " + ours)
			ended(p.Ours)
			mark("||||||| base")
			ended(p.Base)
			mark("=======")
			ended(p.Theirs)
			mark(">>>>>>> " + theirs)
		}
	}
	return all, conflicts == 0
}

func text(t *testing.T, parts []weave.Part, ours, theirs string, want []string, clean bool) {
	t.Helper()
	if got, ok := weave.Text(parts, ours, theirs); ok != clean || !slices.Equal(got, want) {
		t.Fatalf("Text of %v: %q, %v, not %q, %v", parts, got, ok, want, clean)
	}
}

func TestText(t *testing.T) {
	text(t, nil, "l", "r", nil, true)
	// By the kind alone, whatever the lines are: these are parts that Merge never answers.
	for kind, want := range []string{"o", "o", "t", "o"} {
		text(t, []weave.Part{part(kind, "b", "o", "t")}, "l", "r", list(want), true)
		text(t, []weave.Part{{Kind: kind}}, "l", "r", nil, true)
	}
	for _, kind := range []int{4, 5, -1, 77, math.MaxInt, math.MinInt, 1 << 32} {
		text(t, []weave.Part{part(kind, "b", "o", "t")}, "l", "r",
			list("<<<<<<< l\n", "o\n", "||||||| base\n", "b\n", "=======\n", "t\n", ">>>>>>> r\n"), false)
		text(t, []weave.Part{{Kind: kind}}, "", "", list("<<<<<<< \n", "||||||| base\n", "=======\n", ">>>>>>> \n"), false)
	}
	// Of a list the last line alone gets its end, and a line without any byte gets one, too.
	text(t, []weave.Part{{Kind: weave.Conflict, Base: list("b", "b\n"), Ours: list("o", "o"), Theirs: list("t\n", "")}}, "l l", "r\n",
		list("<<<<<<< l l\n", "o", "o\n", "||||||| base\n", "b", "b\n", "=======\n", "t\n", "\n", ">>>>>>> r\n\n"), false)
	// Where there is no conflict, nothing gets an end.
	text(t, []weave.Part{{Kind: weave.Same, Ours: list("a", "")}, {Kind: weave.Theirs, Theirs: list("b")}, {Kind: weave.Ours, Ours: list("c")}, {Kind: weave.Both, Ours: list("d")}},
		"l", "r", list("a", "", "b", "c", "d"), true)
	// One conflict is enough, wherever it stands.
	text(t, []weave.Part{{Kind: weave.Conflict}, {Kind: weave.Same, Ours: list("a")}}, "l", "r",
		list("<<<<<<< l\n", "||||||| base\n", "=======\n", ">>>>>>> r\n", "a"), false)
	text(t, []weave.Part{{Kind: weave.Same, Ours: list("a")}, {Kind: weave.Conflict}}, "l", "r",
		list("a", "<<<<<<< l\n", "||||||| base\n", "=======\n", ">>>>>>> r\n"), false)
}

func TestTextOfMerges(t *testing.T) {
	for _, c := range []struct {
		base, ours, theirs, want string
	}{
		{"abc", "xbc", "aby", "xby"},
		{"abc", "abc", "abc", "abc"},
		{"abc", "bc", "abcd", "bcd"},
		{"abc", "xbc", "xbc", "xbc"},
		{"abcde", "abxcde", "abcd", "abxcd"},
	} {
		p, _ := weave.Merge(letters(c.base), letters(c.ours), letters(c.theirs))
		text(t, p, "l", "r", letters(c.want), true)
	}
	p, _ := weave.Merge(list("a"), list("x"), list("y"))
	text(t, p, "ours", "theirs", list("<<<<<<< ours\n", "x\n", "||||||| base\n", "a\n", "=======\n", "y\n", ">>>>>>> theirs\n"), false)
	r := rand.New(rand.NewSource(82))
	for range 1000 {
		base := anyList(r, 20)
		other := changed(r, base)
		for _, three := range [][3][]string{{base, base, other}, {base, other, base}, {base, other, other}} {
			p, _ := weave.Merge(three[0], three[1], three[2])
			text(t, p, "l", "r", other, true)
		}
	}
}

func anyParts(r *rand.Rand) []weave.Part {
	parts := make([]weave.Part, r.Intn(5))
	for i := range parts {
		parts[i] = weave.Part{Kind: r.Intn(7) - 1, Base: anyList(r, 3), Ours: anyList(r, 3), Theirs: anyList(r, 3)}
	}
	return parts
}

func TestTextOfAnyParts(t *testing.T) {
	r := rand.New(rand.NewSource(83))
	for range 20000 {
		parts := anyParts(r)
		ours, theirs := strings.Join(anyList(r, 2), " "), strings.Join(anyList(r, 2), " ")
		want, clean := textOf(parts, ours, theirs)
		text(t, parts, ours, theirs, want, clean)
	}
}

// P8.3

func TestSwap(t *testing.T) {
	for _, c := range [][2]int{{0, 0}, {1, 2}, {2, 1}, {3, 3}, {4, 4}, {5, 5}, {-1, -1}, {-2, -2}, {math.MaxInt, math.MaxInt}, {math.MinInt, math.MinInt}} {
		got := weave.Swap([]weave.Part{part(c[0], "b", "o", "t"), part(weave.Ours, "", "x", "yz")})
		if !sameParts(got, []weave.Part{part(c[1], "b", "t", "o"), part(weave.Theirs, "", "yz", "x")}) {
			t.Errorf("Swap of a part of kind %d: %v", c[0], got)
		}
	}
	if got := weave.Swap(nil); len(got) != 0 {
		t.Errorf("Swap of nothing: %v", got)
	}
}

func TestSwapOfMerges(t *testing.T) {
	r := rand.New(rand.NewSource(84))
	for range 2000 {
		base := anyList(r, 20)
		ours, theirs := changed(r, base), changed(r, base)
		p, _ := weave.Merge(base, ours, theirs)
		q, _ := weave.Merge(base, theirs, ours)
		if !sameParts(weave.Swap(p), q) || !sameParts(weave.Swap(weave.Swap(p)), p) {
			t.Fatalf("Swap of %v: %v", p, weave.Swap(p))
		}
		parts := anyParts(r)
		if turned := weave.Swap(parts); len(turned) != len(parts) || !sameParts(weave.Swap(turned), parts) {
			t.Fatalf("Swap of %v: %v", parts, turned)
		}
	}
}

// P2: what is handed in is left as it is, its spare room too; what is answered is new memory, its spare room too.

// spoil: the whole of a list, with its spare room, is overwritten.
func spoil(l []string) {
	l = l[:cap(l)]
	for i := range l {
		l[i] = "spoilt"
	}
}

func spoilParts(parts []weave.Part) {
	for _, p := range parts[:cap(parts)] {
		spoil(p.Base)
		spoil(p.Ours)
		spoil(p.Theirs)
	}
	clear(parts[:cap(parts)])
}

func cloned(parts []weave.Part) []weave.Part {
	var all []weave.Part
	for _, p := range parts {
		all = append(all, weave.Part{Kind: p.Kind, Base: slices.Clone(p.Base), Ours: slices.Clone(p.Ours), Theirs: slices.Clone(p.Theirs)})
	}
	return all
}

// apart: no list of these parts shares with another one.
func apart(t *testing.T, parts []weave.Part) {
	t.Helper()
	before := cloned(parts)
	for i := range parts {
		for k := range 3 {
			l := []*[]string{&parts[i].Base, &parts[i].Ours, &parts[i].Theirs}[k]
			keep := slices.Clone(*l)
			spoil(*l)
			*l = keep
			if !sameParts(parts, before) {
				t.Fatalf("a list of part %d shares with another one", i)
			}
		}
	}
}

func TestMergeShares(t *testing.T) {
	r := rand.New(rand.NewSource(85))
	for range 1000 {
		base := anyList(r, 12)
		ours, theirs := changed(r, base), changed(r, base)
		three := [][]string{base, ours, theirs}
		before := [][]string{slices.Clone(base), slices.Clone(ours), slices.Clone(theirs)}
		for i := range three {
			three[i] = three[i][:r.Intn(len(three[i])+1)]
		}
		one, _ := weave.Merge(three[0], three[1], three[2])
		two, _ := weave.Merge(three[0], three[1], three[2])
		spoilParts(one)
		if !slices.Equal(base, before[0]) || !slices.Equal(ours, before[1]) || !slices.Equal(theirs, before[2]) {
			t.Fatalf("lists were changed: %q, %q, %q", base, ours, theirs)
		}
		if !sameParts(two, mergeOf(three[0], three[1], three[2])) {
			t.Fatal("two answers share")
		}
		apart(t, two)
	}
	// One list that is handed in thrice.
	l := list("a", "b", "c")
	p, _ := weave.Merge(l[:2], l[:2], l[:2])
	apart(t, p)
	spoilParts(p)
	if !slices.Equal(l, list("a", "b", "c")) {
		t.Errorf("Merge shares with its lists: %q", l)
	}
}

func TestTextShares(t *testing.T) {
	r := rand.New(rand.NewSource(86))
	for range 2000 {
		parts := anyParts(r)
		for i := range parts {
			p := &parts[i]
			p.Base, p.Ours, p.Theirs = p.Base[:len(p.Base)/2], p.Ours[:len(p.Ours)/2], p.Theirs[:len(p.Theirs)/2]
		}
		room := func() []weave.Part {
			all := slices.Clone(parts)
			for i, p := range all {
				all[i].Base, all[i].Ours, all[i].Theirs = p.Base[:cap(p.Base)], p.Ours[:cap(p.Ours)], p.Theirs[:cap(p.Theirs)]
			}
			return all
		}
		before := cloned(room())
		n := r.Intn(len(parts) + 1)
		one, _ := weave.Text(parts[:n], "l", "r")
		two, _ := weave.Text(parts[:n], "l", "r")
		want, _ := textOf(parts[:n], "l", "r")
		spoil(one)
		if !sameParts(room(), before) {
			t.Fatalf("parts were changed: %v", parts)
		}
		if !slices.Equal(two, want) {
			t.Fatal("two answers share")
		}
	}
}

func TestSwapShares(t *testing.T) {
	r := rand.New(rand.NewSource(87))
	for range 2000 {
		parts := anyParts(r)
		before := cloned(parts)
		n := r.Intn(len(parts) + 1)
		one, two := weave.Swap(parts[:n]), weave.Swap(parts[:n])
		spoilParts(one)
		if !sameParts(parts, before) {
			t.Fatalf("parts were changed: %v", parts)
		}
		if !sameParts(weave.Swap(two), parts[:n]) {
			t.Fatal("two answers share")
		}
		apart(t, two)
	}
	l := list("a", "b", "c")
	got := weave.Swap([]weave.Part{{Kind: weave.Same, Base: l[:1], Ours: l[:2], Theirs: l}})
	apart(t, got)
	spoilParts(got)
	if !slices.Equal(l, list("a", "b", "c")) {
		t.Errorf("Swap shares with its lists: %q", l)
	}
}

// P1

func TestAnyListsEnd(t *testing.T) {
	r := rand.New(rand.NewSource(88))
	for range 5000 {
		base, ours, theirs := anyList(r, 15), anyList(r, 15), anyList(r, 15)
		p, e := weave.Merge(base, ours, theirs)
		if e != api.OK {
			t.Fatal(e)
		}
		whole(t, p, base, ours, theirs)
		got, clean := weave.Text(weave.Swap(p), "l", "r")
		want, _ := weave.Text(p, "r", "l")
		if clean && !slices.Equal(got, want) {
			t.Fatalf("Text of %v and the other way round: %q, %q", p, want, got)
		}
	}
}

func TestLongListsEnd(t *testing.T) {
	many := unlike(1<<20, "x")
	for _, c := range [][3][]string{{nil, many, many}, {many, nil, nil}, {nil, many, nil}, {many[5:6], many, many}, {many, many[9:10], many[9:10]}} {
		p, e := weave.Merge(c[0], c[1], c[2])
		if e != api.OK || len(p) == 0 {
			t.Errorf("Merge of %d, %d, %d lines: %v", len(c[0]), len(c[1]), len(c[2]), e)
		}
		weave.Text(weave.Swap(p), "l", "r")
	}
	// A name that is long, in very many conflicts.
	long := strings.Repeat("a", 1<<20)
	conflicts := make([]weave.Part, 1<<16)
	for i := range conflicts {
		conflicts[i].Kind = weave.Conflict
	}
	if l, clean := weave.Text(conflicts, long, long); clean || len(l) != 4<<16 || l[4] != "<<<<<<< "+long+"\n" {
		t.Error("Text of many conflicts")
	}
}
