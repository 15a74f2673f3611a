package lines_test

import (
	"bytes"
	"math"
	"math/rand"
	"slices"
	"strconv"
	"strings"
	"testing"

	"towline/api"
	"towline/lines"
)

func list(s ...string) []string { return s }

// letters: a line for each letter of a text.
func letters(s string) []string { return strings.Split(s, "") }

// lists: all lists of at most n of these lines.
func lists(of []string, n int) [][]string {
	all := [][]string{nil}
	level := all
	for range n {
		var next [][]string
		for _, l := range level {
			for _, s := range of {
				next = append(next, append(slices.Clone(l), s))
			}
		}
		all = append(all, next...)
		level = next
	}
	return all
}

// anyList: at most n lines of a few.
func anyList(r *rand.Rand, n int) []string {
	some := []string{"", "a", "a\n", "\n", "b\n", "\x00", "\xff\xfe", "a\nb\n"}
	some = some[:1+r.Intn(len(some))]
	l := make([]string, r.Intn(n+1))
	for i := range l {
		l[i] = some[r.Intn(len(some))]
	}
	return l
}

// P7.1

// splitOf: the same from the words, byte by byte.
func splitOf(text []byte) []string {
	var all []string
	line := ""
	for i, c := range text {
		line += string(text[i : i+1])
		if c == 10 || i == len(text)-1 {
			all = append(all, line)
			line = ""
		}
	}
	return all
}

func TestSplit(t *testing.T) {
	for _, c := range []struct {
		text string
		want []string
	}{
		{"", nil},
		{"a", list("a")},
		{"a\n", list("a\n")},
		{"\n", list("\n")},
		{"\n\n", list("\n", "\n")},
		{"a\nb\nc", list("a\n", "b\n", "c")},
		{"a\nb\nc\n", list("a\n", "b\n", "c\n")},
		{"\na", list("\n", "a")},
		{"a\r\nb\rc\x00\xff\u2028d", list("a\r\n", "b\rc\x00\xff\u2028d")},
	} {
		if got := lines.Split([]byte(c.text)); !slices.Equal(got, c.want) {
			t.Errorf("Split of %q: %q", c.text, got)
		}
	}
	if got := lines.Split(nil); len(got) != 0 {
		t.Errorf("Split of nil: %q", got)
	}
}

func TestSplitOfAllShortTexts(t *testing.T) {
	for _, l := range lists(list("\n", "a", "\r", "\x00", "\xff"), 6) {
		text := lines.Join(l...)
		if string(text) != strings.Join(l, "") {
			t.Fatalf("Join of %q: %q", l, text)
		}
		got := lines.Split(text)
		if !slices.Equal(got, splitOf(text)) {
			t.Fatalf("Split of %q: %q", text, got)
		}
		if back := lines.Join(got...); !bytes.Equal(back, text) {
			t.Fatalf("Join of the lines of %q: %q", text, back)
		}
	}
}

func TestJoin(t *testing.T) {
	for _, c := range []struct {
		lines []string
		want  string
	}{
		{nil, ""},
		{list(""), ""},
		{list("", "a", "", "b\n", ""), "ab\n"},
		{list("a", "b"), "ab"},
		{list("a\nb", "\xff", "\x00"), "a\nb\xff\x00"},
	} {
		if got := lines.Join(c.lines...); string(got) != c.want {
			t.Errorf("Join of %q: %q", c.lines, got)
		}
	}
}

func TestIsText(t *testing.T) {
	for _, s := range []string{"", "a", "a\nb", "\x01", "\xff\xfe", "0", "\n"} {
		if !lines.IsText([]byte(s)) {
			t.Errorf("IsText of %q", s)
		}
	}
	for _, s := range []string{"\x00", "a\x00", "\x00a", "a\n\x00\nb", "\x00\x00", strings.Repeat("a", 10000) + "\x00"} {
		if lines.IsText([]byte(s)) {
			t.Errorf("IsText of %q", s)
		}
	}
	if !lines.IsText(nil) {
		t.Error("IsText of nil")
	}
	for c := range 256 {
		if lines.IsText([]byte{'a', byte(c), 'b'}) != (c != 0) {
			t.Errorf("IsText with a byte %d", c)
		}
	}
}

// P7.2

// mostOf: how many lines two lists have in common: of all ways to leave lines of a out, the one that leaves the fewest and stands in b.
func mostOf(a, b []string) int {
	most := 0
	for left := range 1 << len(a) {
		rest, n := b, 0
		for i, s := range a {
			if left>>i&1 == 0 {
				continue
			}
			k := slices.Index(rest, s)
			if k < 0 {
				n = -1
				break
			}
			rest = rest[k+1:]
			n++
		}
		most = max(most, n)
	}
	return most
}

// pairsOf: the same from the words, by any way to tell how many lines two lists have in common.
func pairsOf(a, b []string, most func(a, b []string) int) [][2]int {
	var pairs [][2]int
	i, j := 0, 0
	for i < len(a) && j < len(b) {
		if a[i] == b[j] {
			pairs = append(pairs, [2]int{i, j})
			i, j = i+1, j+1
		} else if most(a[i+1:], b[j:]) == most(a[i:], b[j:]) {
			i++
		} else {
			j++
		}
	}
	return pairs
}

func pairs(t *testing.T, a, b []string, want [][2]int) {
	t.Helper()
	got, e := lines.Pairs(a, b)
	if e != api.OK || !slices.Equal(got, want) {
		t.Fatalf("Pairs of %q and %q: %v, %v, not %v", a, b, got, e, want)
	}
}

func TestPairs(t *testing.T) {
	for _, c := range []struct {
		a, b string
		want [][2]int
	}{
		{"", "", nil},
		{"a", "", nil},
		{"", "a", nil},
		{"a", "b", nil},
		{"a", "a", [][2]int{{0, 0}}},
		{"abc", "axc", [][2]int{{0, 0}, {2, 2}}},
		// Where both ways have in common as many, a's first line is passed over.
		{"xa", "ax", [][2]int{{1, 0}}},
		{"ax", "xa", [][2]int{{1, 0}}},
		{"abxy", "xyab", [][2]int{{2, 0}, {3, 1}}},
		{"abx", "xab", [][2]int{{0, 1}, {1, 2}}},
		{"xab", "abx", [][2]int{{1, 0}, {2, 1}}},
		// The first of lines that are alike is taken.
		{"aaa", "a", [][2]int{{0, 0}}},
		{"a", "aaa", [][2]int{{0, 0}}},
		{"aba", "ba", [][2]int{{1, 0}, {2, 1}}},
		{"ba", "aba", [][2]int{{0, 1}, {1, 2}}},
		{"abcabba", "cbabac", [][2]int{{2, 0}, {4, 1}, {5, 3}, {6, 4}}},
	} {
		pairs(t, letters(c.a), letters(c.b), c.want)
	}
	pairs(t, nil, nil, nil)
	pairs(t, list(""), list("", ""), [][2]int{{0, 0}})
	pairs(t, list("a\n", "a"), list("a", "a\n"), [][2]int{{1, 0}})
	pairs(t, list("\xff", "\xfe"), list("\xfe", "\ufffd"), [][2]int{{1, 0}})
}

func TestPairsOfAllShortLists(t *testing.T) {
	for _, all := range [][][]string{lists(list("", "\n", "a"), 4), lists(list("a", "a\n"), 6)} {
		for _, a := range all {
			for _, b := range all {
				pairs(t, a, b, pairsOf(a, b, mostOf))
			}
		}
	}
}

// mostByRows: mostOf for longer lists, row by row.
func mostByRows(a, b []string) int {
	row := make([]int, len(b)+1)
	for _, x := range a {
		next := make([]int, len(b)+1)
		for j, y := range b {
			if x == y {
				next[j+1] = row[j] + 1
			} else {
				next[j+1] = max(row[j+1], next[j])
			}
		}
		row = next
	}
	return row[len(b)]
}

func TestPairsOfLongerLists(t *testing.T) {
	r := rand.New(rand.NewSource(71))
	for range 1500 {
		a, b := anyList(r, 30), anyList(r, 30)
		want := pairsOf(a, b, mostByRows)
		if len(want) != mostByRows(a, b) {
			t.Fatalf("of %q and %q not a longest list", a, b)
		}
		pairs(t, a, b, want)
	}
}

// unlike: so many lines, none twice.
func unlike(n int, name string) []string {
	l := make([]string, n)
	for i := range l {
		l[i] = name + strconv.Itoa(i)
	}
	return l
}

func TestMostWork(t *testing.T) {
	if lines.MaxWork != 1048576 {
		t.Error("MaxWork")
	}
	for _, c := range []struct {
		a, b int
		e    api.Errno
	}{
		{1024, 1024, api.OK}, {1024, 1025, api.ErrLong}, {1025, 1024, api.ErrLong},
		{1, 1 << 20, api.OK}, {1 << 20, 1, api.OK}, {1, 1<<20 + 1, api.ErrLong}, {1<<20 + 1, 1, api.ErrLong},
		{3, 349525, api.OK}, {3, 349526, api.ErrLong}, {349525, 3, api.OK}, {349526, 3, api.ErrLong},
		{1<<20 + 1, 0, api.OK}, {0, 1<<20 + 1, api.OK}, {2048, 513, api.ErrLong}, {2048, 512, api.OK}, {1 << 20, 1 << 20, api.ErrLong},
	} {
		for _, name := range []string{"x", "y"} {
			a, b := unlike(c.a, "x"), unlike(c.b, name)
			alike := 0
			if c.e == api.OK && name == "x" {
				alike = min(c.a, c.b)
			}
			p, e := lines.Pairs(a, b)
			if e != c.e || len(p) != alike {
				t.Errorf("Pairs of %d and %d lines: %d, %v", c.a, c.b, len(p), e)
			}
			if alike > 0 && (p[0] != [2]int{} || p[alike-1] != [2]int{alike - 1, alike - 1}) {
				t.Errorf("Pairs of %d and %d lines: from %v to %v", c.a, c.b, p[0], p[alike-1])
			}
			if h, e := lines.Diff(a, b); e != c.e || (len(h) > 0) != (e == api.OK && (c.a != c.b || alike == 0)) {
				t.Errorf("Diff of %d and %d lines: %d, %v", c.a, c.b, len(h), e)
			}
		}
	}
}

// P7.3

func sameHunks(a, b []lines.Hunk) bool {
	return slices.EqualFunc(a, b, func(x, y lines.Hunk) bool {
		return x.At == y.At && slices.Equal(x.Old, y.Old) && slices.Equal(x.New, y.New)
	})
}

// diffOf: the same from the words: lines are no part of a pair, or end a hunk.
func diffOf(a, b []string, pairs [][2]int) []lines.Hunk {
	var hunks []lines.Hunk
	i, j := 0, 0
	for k := 0; k <= len(pairs); k++ {
		to := [2]int{len(a), len(b)}
		if k < len(pairs) {
			to = pairs[k]
		}
		h := lines.Hunk{At: i}
		for ; i < to[0]; i++ {
			h.Old = append(h.Old, a[i])
		}
		for ; j < to[1]; j++ {
			h.New = append(h.New, b[j])
		}
		if h.Old != nil || h.New != nil {
			hunks = append(hunks, h)
		}
		i, j = i+1, j+1
	}
	return hunks
}

func diff(t *testing.T, a, b []string, want []lines.Hunk) {
	t.Helper()
	got, e := lines.Diff(a, b)
	if e != api.OK || !sameHunks(got, want) {
		t.Fatalf("Diff of %q and %q: %v, %v, not %v", a, b, got, e, want)
	}
}

func TestDiff(t *testing.T) {
	for _, c := range []struct {
		a, b string
		want []lines.Hunk
	}{
		{"", "", nil},
		{"abc", "abc", nil},
		{"abc", "axc", []lines.Hunk{{1, list("b"), list("x")}}},
		{"abc", "ac", []lines.Hunk{{1, list("b"), nil}}},
		{"ac", "abc", []lines.Hunk{{1, nil, list("b")}}},
		{"", "ab", []lines.Hunk{{0, nil, list("a", "b")}}},
		{"ab", "", []lines.Hunk{{0, list("a", "b"), nil}}},
		{"a", "xa", []lines.Hunk{{0, nil, list("x")}}},
		{"a", "ax", []lines.Hunk{{1, nil, list("x")}}},
		{"xa", "a", []lines.Hunk{{0, list("x"), nil}}},
		{"ax", "a", []lines.Hunk{{1, list("x"), nil}}},
		{"ab", "xy", []lines.Hunk{{0, list("a", "b"), list("x", "y")}}},
		{"abcde", "xbcyz", []lines.Hunk{{0, list("a"), list("x")}, {3, list("d", "e"), list("y", "z")}}},
		{"abc", "cab", []lines.Hunk{{0, nil, list("c")}, {2, list("c"), nil}}},
	} {
		diff(t, letters(c.a), letters(c.b), c.want)
	}
	diff(t, list("a"), list("a", ""), []lines.Hunk{{1, nil, list("")}})
	if h, e := lines.Diff(unlike(1025, "x"), unlike(1024, "x")); e != api.ErrLong || len(h) != 0 {
		t.Errorf("Diff of too many lines: %d, %v", len(h), e)
	}
}

// back: the hunks make b of a, and the other way round.
func back(t *testing.T, a, b []string) {
	t.Helper()
	h, _ := lines.Diff(a, b)
	if got, e := lines.Patch(a, h...); e != api.OK || !slices.Equal(got, b) {
		t.Fatalf("Patch of %q by its Diff from %q: %q, %v", a, b, got, e)
	}
	if got, e := lines.Patch(b, lines.Back(h...)...); e != api.OK || !slices.Equal(got, a) {
		t.Fatalf("Patch of %q Back to %q: %q, %v", b, a, got, e)
	}
}

func TestDiffOfAllShortLists(t *testing.T) {
	all := lists(list("", "\n", "a"), 4)
	for _, a := range all {
		for _, b := range all {
			diff(t, a, b, diffOf(a, b, pairsOf(a, b, mostOf)))
			back(t, a, b)
		}
	}
}

func TestDiffOfLongerLists(t *testing.T) {
	r := rand.New(rand.NewSource(72))
	for range 1500 {
		a, b := anyList(r, 30), anyList(r, 30)
		diff(t, a, b, diffOf(a, b, pairsOf(a, b, mostByRows)))
		back(t, a, b)
	}
}

// P7.4

// patchOf: the same from the words: what is behind the last hunk's lines is cut off ahead of the next one.
func patchOf(a []string, hunks []lines.Hunk) ([]string, api.Errno) {
	var all []string
	behind := 0
	for _, h := range hunks {
		if h.At < behind || h.At > len(a) {
			return nil, api.ErrMissing
		}
		for ; behind < h.At; behind++ {
			all = append(all, a[behind])
		}
		for _, s := range h.Old {
			if behind == len(a) || a[behind] != s {
				return nil, api.ErrMissing
			}
			behind++
		}
		all = append(all, h.New...)
	}
	return append(all, a[behind:]...), api.OK
}

func patch(t *testing.T, a []string, hunks []lines.Hunk, want []string, e api.Errno) {
	t.Helper()
	got, f := lines.Patch(a, hunks...)
	if f != e || !slices.Equal(got, want) {
		t.Fatalf("Patch of %q by %v: %q, %v, not %q, %v", a, hunks, got, f, want, e)
	}
}

func TestPatch(t *testing.T) {
	abc := letters("abc")
	for _, c := range []struct {
		hunks []lines.Hunk
		want  string
	}{
		{nil, "abc"},
		{[]lines.Hunk{{}}, "abc"},
		{[]lines.Hunk{{3, nil, nil}}, "abc"},
		{[]lines.Hunk{{1, list("b"), list("x")}}, "axc"},
		{[]lines.Hunk{{1, list("b"), nil}}, "ac"},
		{[]lines.Hunk{{1, nil, list("x", "y")}}, "axybc"},
		{[]lines.Hunk{{0, nil, list("x")}}, "xabc"},
		{[]lines.Hunk{{3, nil, list("x")}}, "abcx"},
		{[]lines.Hunk{{0, abc, nil}}, ""},
		{[]lines.Hunk{{0, list("a"), list("x")}, {1, list("b"), list("y")}, {2, list("c"), list("z")}}, "xyz"},
		{[]lines.Hunk{{0, list("a"), nil}, {2, list("c"), nil}, {3, nil, list("z")}}, "bz"},
		// Several at one place: the place behind no old lines is the same one.
		{[]lines.Hunk{{1, nil, list("x")}, {1, nil, list("y")}, {1, list("b"), list("z")}}, "axyzc"},
		{[]lines.Hunk{{0, list("a", "b"), nil}, {2, nil, list("x")}, {2, nil, list("y")}}, "xyc"},
		// What is new needn't be other than what is old.
		{[]lines.Hunk{{1, list("b"), list("b")}}, "abc"},
	} {
		patch(t, abc, c.hunks, letters(c.want), api.OK)
	}
	patch(t, nil, nil, nil, api.OK)
	patch(t, nil, []lines.Hunk{{0, nil, list("x")}}, list("x"), api.OK)
	patch(t, list("", ""), []lines.Hunk{{1, list(""), nil}}, list(""), api.OK)
}

func TestPatchOfWhatDoesNotFit(t *testing.T) {
	abc := letters("abc")
	fits := lines.Hunk{At: 0, Old: list("a"), New: list("x")}
	for _, h := range [][]lines.Hunk{
		{{-1, nil, nil}}, {{-1, nil, list("x")}}, {{math.MinInt, nil, nil}}, {{math.MinInt, list("a"), nil}},
		{{4, nil, nil}}, {{4, nil, list("x")}}, {{math.MaxInt, nil, nil}}, {{math.MaxInt, list("a"), nil}}, {{1 << 32, nil, nil}},
		{{0, list("b"), nil}}, {{1, list("a"), nil}}, {{2, list("b"), nil}}, {{1, list("b\n"), nil}}, {{1, list(""), nil}},
		{{3, list("c"), nil}}, {{2, list("c", "d"), nil}}, {{0, letters("abcd"), nil}}, {{3, list(""), nil}}, {{0, list("a", "c"), nil}},
		{fits, fits}, {fits, {0, nil, nil}}, {{1, nil, list("x")}, {0, nil, list("y")}}, {{0, list("a", "b"), nil}, {1, list("b"), nil}},
		{{0, list("a", "b"), nil}, {1, nil, nil}}, {{1, list("b"), nil}, fits}, {fits, {1, list("x"), nil}}, {fits, {4, nil, nil}},
		// What was put in is no line of the list.
		{{0, nil, list("x")}, {4, nil, nil}}, {{3, nil, list("d")}, {3, list("d"), nil}},
	} {
		patch(t, abc, h, nil, api.ErrMissing)
	}
	patch(t, nil, []lines.Hunk{{0, list("a"), nil}}, nil, api.ErrMissing)
	patch(t, nil, []lines.Hunk{{1, nil, nil}}, nil, api.ErrMissing)
}

func TestPatchByAllShortHunks(t *testing.T) {
	var hunks []lines.Hunk
	for at := -1; at <= 4; at++ {
		for _, old := range lists(list("a", "b"), 2) {
			hunks = append(hunks, lines.Hunk{At: at, Old: old}, lines.Hunk{At: at, Old: old, New: list("x", "a")})
		}
	}
	fits := 0
	for _, a := range lists(list("a", "b"), 3) {
		for _, g := range hunks {
			for _, h := range hunks {
				both := []lines.Hunk{g, h}
				want, e := patchOf(a, both)
				patch(t, a, both, want, e)
				if e == api.OK {
					fits++
				}
			}
		}
	}
	if fits < 1000 {
		t.Errorf("only %d fit", fits)
	}
}

// P7.5

// backOf: the same from the words, each hunk by itself.
func backOf(hunks []lines.Hunk) []lines.Hunk {
	var all []lines.Hunk
	for k, h := range hunks {
		at := h.At
		for _, g := range hunks[:k] {
			at += len(g.New)
			at -= len(g.Old)
		}
		all = append(all, lines.Hunk{At: at, Old: h.New, New: h.Old})
	}
	return all
}

func TestBack(t *testing.T) {
	for _, c := range []struct {
		hunks, want []lines.Hunk
	}{
		{nil, nil},
		{[]lines.Hunk{{}}, []lines.Hunk{{}}},
		{[]lines.Hunk{{1, list("b"), list("x", "y")}}, []lines.Hunk{{1, list("x", "y"), list("b")}}},
		{
			[]lines.Hunk{{1, list("b"), list("x", "y")}, {3, list("c", "d", "e"), nil}, {7, nil, list("z")}},
			[]lines.Hunk{{1, list("x", "y"), list("b")}, {4, nil, list("c", "d", "e")}, {5, list("z"), nil}},
		},
		// Any hunks: also such as fit no list.
		{[]lines.Hunk{{-5, list("b"), nil}, {-5, nil, list("z")}, {-9, nil, nil}}, []lines.Hunk{{-5, nil, list("b")}, {-6, list("z"), nil}, {-9, nil, nil}}},
		{[]lines.Hunk{{math.MaxInt, nil, list("b")}, {math.MinInt, nil, nil}}, []lines.Hunk{{math.MaxInt, list("b"), nil}, {math.MinInt + 1, nil, nil}}},
	} {
		if got := lines.Back(c.hunks...); !sameHunks(got, c.want) {
			t.Errorf("Back of %v: %v", c.hunks, got)
		}
	}
}

func anyHunks(r *rand.Rand) []lines.Hunk {
	hunks := make([]lines.Hunk, r.Intn(5))
	for i := range hunks {
		hunks[i] = lines.Hunk{At: r.Intn(12) - 2, Old: anyList(r, 3), New: anyList(r, 3)}
	}
	return hunks
}

func TestBackOfAnyHunks(t *testing.T) {
	r := rand.New(rand.NewSource(73))
	for range 5000 {
		h := anyHunks(r)
		if got := lines.Back(h...); !sameHunks(got, backOf(h)) {
			t.Fatalf("Back of %v: %v", h, got)
		}
	}
}

// P2: what is handed in is left as it is, its spare room too; what is answered is new memory, its spare room too.

// spoil: the whole of a list, with its spare room, is overwritten.
func spoil(l []string) {
	l = l[:cap(l)]
	for i := range l {
		l[i] = "spoilt"
	}
}

func spoilHunks(hunks []lines.Hunk) {
	for _, h := range hunks[:cap(hunks)] {
		spoil(h.Old)
		spoil(h.New)
	}
	clear(hunks[:cap(hunks)])
}

func TestSplitAndJoinShare(t *testing.T) {
	text := []byte("a\nb\nc\nd")
	before := bytes.Clone(text)
	one, two := lines.Split(text[:5]), lines.Split(text[:5])
	if !bytes.Equal(text, before) {
		t.Error("Split changed its text")
	}
	clear(text)
	if !slices.Equal(one, list("a\n", "b\n", "c")) {
		t.Errorf("Split kept its text: %q", one)
	}
	spoil(one)
	if !slices.Equal(two, list("a\n", "b\n", "c")) {
		t.Errorf("two answers of Split share: %q", two)
	}
	room := list("a", "b", "c", "d")
	x, y := lines.Join(room[:1]...), lines.Join(room[:1]...)
	clear(x[:cap(x)])
	if string(y) != "a" || !slices.Equal(room, list("a", "b", "c", "d")) {
		t.Errorf("Join shares: %q, %q", y, room)
	}
	lines.IsText(before[:3])
	if string(before) != "a\nb\nc\nd" {
		t.Error("IsText changed its bytes")
	}
}

func TestPairsAndDiffShare(t *testing.T) {
	r := rand.New(rand.NewSource(74))
	for range 500 {
		a, b := anyList(r, 12), anyList(r, 12)
		beforeA, beforeB := slices.Clone(a), slices.Clone(b)
		a2, b2 := a[:r.Intn(len(a)+1)], b[:r.Intn(len(b)+1)]
		wantPairs := pairsOf(a2, b2, mostByRows)
		want := diffOf(slices.Clone(a2), slices.Clone(b2), wantPairs)
		p, _ := lines.Pairs(a2, b2)
		q, _ := lines.Pairs(a2, b2)
		clear(p[:cap(p)])
		one, _ := lines.Diff(a2, b2)
		two, _ := lines.Diff(a2, b2)
		spoilHunks(one)
		if !slices.Equal(a, beforeA) || !slices.Equal(b, beforeB) {
			t.Fatalf("lists were changed: %q, %q", a, b)
		}
		if !slices.Equal(q, wantPairs) || !sameHunks(two, want) {
			t.Fatal("two answers share")
		}
		for k := range two {
			spoil(two[k].Old)
			if !slices.Equal(two[k].New, want[k].New) || !sameHunks(two[k+1:], want[k+1:]) {
				t.Fatal("two lists of an answer share")
			}
			spoil(two[k].New)
			if !sameHunks(two[k+1:], want[k+1:]) {
				t.Fatal("two hunks of an answer share")
			}
		}
	}
}

// cloned: hunks with memory of their own.
func cloned(hunks []lines.Hunk) []lines.Hunk {
	var all []lines.Hunk
	for _, h := range hunks {
		all = append(all, lines.Hunk{At: h.At, Old: slices.Clone(h.Old), New: slices.Clone(h.New)})
	}
	return all
}

func TestPatchShares(t *testing.T) {
	r := rand.New(rand.NewSource(75))
	for range 500 {
		a, b := anyList(r, 12), anyList(r, 12)
		room := append(slices.Clone(a), "spare", "room")
		h, _ := lines.Diff(a, b)
		h = append(h, lines.Hunk{At: len(a) + 1})[:len(h)]
		beforeH := cloned(h[:len(h)+1])
		one, _ := lines.Patch(room[:len(a)], h...)
		two, _ := lines.Patch(room[:len(a)], h...)
		spoil(one)
		if !slices.Equal(room, append(slices.Clone(a), "spare", "room")) || !sameHunks(h[:len(h)+1], beforeH) {
			t.Fatalf("arguments were changed: %q, %v", room, h)
		}
		if !slices.Equal(two, b) {
			t.Fatal("two answers share")
		}
	}
}

func TestBackShares(t *testing.T) {
	r := rand.New(rand.NewSource(76))
	for range 500 {
		h := anyHunks(r)
		n := r.Intn(len(h) + 1)
		before := cloned(h)
		one, two := lines.Back(h[:n]...), lines.Back(h[:n]...)
		spoilHunks(one)
		if !sameHunks(h, before) {
			t.Fatalf("arguments were changed: %v", h)
		}
		want := backOf(before[:n])
		if !sameHunks(two, want) {
			t.Fatal("two answers share")
		}
		for k := range two {
			spoil(two[k].Old)
			if !slices.Equal(two[k].New, want[k].New) || !sameHunks(two[k+1:], want[k+1:]) {
				t.Fatal("two lists of an answer share")
			}
			spoil(two[k].New)
			if !sameHunks(two[k+1:], want[k+1:]) {
				t.Fatal("two hunks of an answer share")
			}
		}
	}
	// One list that is handed in twice.
	l := list("a", "b", "c")
	got := lines.Back(lines.Hunk{At: 0, Old: l[:1], New: l[:2]})
	spoil(got[0].Old)
	if !slices.Equal(got[0].New, list("a")) || !slices.Equal(l, list("a", "b", "c")) {
		t.Errorf("Back shares: %v, %q", got, l)
	}
}

// P1

func TestAnyHunksEnd(t *testing.T) {
	r := rand.New(rand.NewSource(77))
	for range 20000 {
		a, h := anyList(r, 10), anyHunks(r)
		want, e := patchOf(a, h)
		patch(t, a, h, want, e)
	}
}

func TestLongTextsEnd(t *testing.T) {
	for _, s := range []string{strings.Repeat("\n", 1<<22), strings.Repeat("\xff", 1<<22), strings.Repeat("a\n", 1<<21)} {
		l := lines.Split([]byte(s))
		if string(lines.Join(l...)) != s || !lines.IsText([]byte(s)) {
			t.Errorf("a text of %d bytes that begins with %q", len(s), s[:2])
		}
	}
	// Many lines that are long and alike but for their ends: each can't be held against each.
	long := strings.Repeat("a", 1<<16)
	var a, b []string
	for i := range 1024 {
		a = append(a, strings.Clone(long)+"x")
		b = append(b, strings.Clone(long)+strconv.Itoa(i%2))
	}
	if p, e := lines.Pairs(a, b); e != api.OK || len(p) != 0 {
		t.Errorf("Pairs of long lines: %d, %v", len(p), e)
	}
}

// Those ahead of a hunk that doesn't fit have more new lines than there is room for.
func TestManyNewLinesEnd(t *testing.T) {
	many := make([]string, 1<<16)
	var hunks []lines.Hunk
	for range 1 << 18 {
		hunks = append(hunks, lines.Hunk{New: many})
	}
	patch(t, nil, append(hunks, lines.Hunk{At: 1}), nil, api.ErrMissing)
}
