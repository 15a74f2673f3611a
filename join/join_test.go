package join_test

import (
	"bytes"
	"fmt"
	"math"
	"math/rand"
	"slices"
	"strconv"
	"strings"
	"testing"

	"towline/api"
	"towline/join"
	"towline/lines"
	"towline/path"
	"towline/stamp"
	"towline/tree"
	"towline/weave"
)

var (
	minusZero = math.Copysign(0, -1)
	inf       = math.Inf(1)
	nan       = math.Float64frombits(0x7ff8000000000000)
	oddNaN    = math.Float64frombits(0xfff8000000000123)
)

// show: the beginning of what a value is, without the many noughts of ids.
func show(x any) string {
	s := strings.ReplaceAll(fmt.Sprintf("%v", x), " 0", "")
	return s[:min(len(s), 2000)]
}

// num: an id; that of 0 is zero.
func num(n int) api.ID { return api.ID{0: byte(n >> 8), 31: byte(n)} }

func file(p string, id int, stamp float64) tree.File {
	return tree.File{Path: p, ID: num(id), Stamp: stamp}
}

// files: one for each row of a path, a blank and its id's number; all of the time 0.
func files(rows ...string) []tree.File {
	var l []tree.File
	for _, row := range rows {
		p, id, _ := strings.Cut(row, " ")
		n, _ := strconv.Atoi(id)
		l = append(l, file(p, n, 0))
	}
	return l
}

// blobs is a source of texts, by the numbers of their ids, that knows for which it was asked. Where it has none it answers an error, and bytes beside it.
type blobs struct {
	texts map[int]string
	asked []int
}

func (b *blobs) Text(id api.ID) ([]byte, api.Errno) {
	n := int(id[0])<<8 | int(id[31])
	b.asked = append(b.asked, n)
	s, there := b.texts[n]
	if !there {
		return []byte("beside"), api.Errno(1000 + n)
	}
	return []byte(s), api.OK
}

func sameOutcome(a, b join.Outcome) bool {
	return a.Path == b.Path && a.Kind == b.Kind && a.ID == b.ID && math.Float64bits(a.Stamp) == math.Float64bits(b.Stamp) &&
		bytes.Equal(a.Text, b.Text) && a.Has == b.Has && a.IDs == b.IDs
}

func sameOutcomes(a, b []join.Outcome) bool { return slices.EqualFunc(a, b, sameOutcome) }

// merge: of snapshots and texts with which nothing is wrong.
func merge(t *testing.T, base, ours, theirs []tree.File, texts map[int]string) []join.Outcome {
	t.Helper()
	l, e := join.Merge([3][]tree.File{base, ours, theirs}, &blobs{texts: texts})
	if e != api.OK {
		t.Fatalf("Merge of %s, %s, %s: %v", show(base), show(ours), show(theirs), e)
	}
	return l
}

// outcome: what base, ours and theirs have at a path, by their ids' numbers; below 0, if they haven't it.
func outcome(p string, kind, id int, stamp float64, text string, has ...int) join.Outcome {
	o := join.Outcome{Path: p, Kind: kind, ID: num(id), Stamp: stamp, Text: []byte(text)}
	for i, n := range has {
		if n >= 0 {
			o.Has[i], o.IDs[i] = true, num(n)
		}
	}
	return o
}

// outcomesOf: the same as Merge of snapshots that Check takes, from the words.
func outcomesOf(snapshots [3][]tree.File, src join.Source) ([]join.Outcome, api.Errno) {
	var paths []string
	at := [3]map[string]tree.File{}
	for i, l := range snapshots {
		at[i] = map[string]tree.File{}
		for _, f := range l {
			at[i][f.Path] = f
			paths = append(paths, f.Path)
		}
	}
	slices.SortFunc(paths, path.Compare)
	var out []join.Outcome
	for _, p := range slices.Compact(paths) {
		o := join.Outcome{Path: p}
		var f [3]tree.File
		for i := range 3 {
			f[i], o.Has[i] = at[i][p]
			o.IDs[i] = f[i].ID
		}
		alike := func(a, b int) bool { return !o.Has[a] && !o.Has[b] || o.Has[a] && o.Has[b] && f[a].ID == f[b].ID }
		o.Stamp = timeOf(o.Has, [3]float64{f[0].Stamp, f[1].Stamp, f[2].Stamp})
		side := 0
		if alike(1, 2) || alike(0, 2) {
			side = 1
		} else if alike(0, 1) {
			side = 2
		}
		switch {
		case side != 0 && !o.Has[side]:
			continue
		case side != 0:
			o.Kind, o.ID = join.Keep, f[side].ID
		default:
			var e api.Errno
			if o.Kind, o.Text, e = textOf(o, src); e != api.OK {
				return nil, e
			}
		}
		out = append(out, o)
	}
	kinds := make([]int, len(out))
	for i, o := range out {
		kinds[i] = o.Kind
		for _, other := range out {
			if path.Under(o.Path, other.Path) {
				kinds[i] = join.Blocked
			}
		}
	}
	for i, k := range kinds {
		out[i].Kind = k
	}
	return out, api.OK
}

// timeOf: a path's time, from the words.
func timeOf(has [3]bool, times [3]float64) float64 {
	var f float64
	switch {
	case has[1] && !has[2]:
		f = times[1]
	case !has[1] && has[2]:
		f = times[2]
	case has[0] && stamp.Key(times[0]) == stamp.Key(times[1]):
		f = times[2]
	case has[0] && stamp.Key(times[0]) == stamp.Key(times[2]):
		f = times[1]
	case stamp.Key(times[1]) > stamp.Key(times[2]):
		f = times[1]
	default:
		f = times[2]
	}
	if f != f {
		return nan
	}
	return f
}

// textOf: what becomes of a path at which none are alike, from the words.
func textOf(o join.Outcome, src join.Source) (int, []byte, api.Errno) {
	if !o.Has[1] || !o.Has[2] {
		return join.Clash, nil, api.OK
	}
	var l [3][]string
	for i := range 3 {
		if !o.Has[i] {
			continue
		}
		b, e := src.Text(o.IDs[i])
		if e != api.OK {
			return 0, nil, e
		}
		if slices.Contains(b, 0) {
			return join.Clash, nil, api.OK
		}
		l[i] = strings.SplitAfter(string(b), "\n")
		if n := len(l[i]) - 1; l[i][n] == "" {
			l[i] = l[i][:n]
		}
	}
	parts, e := weave.Merge(l[0], l[1], l[2])
	if e != api.OK {
		return join.Clash, nil, api.OK
	}
	all, clean := weave.Text(parts, "ours", "theirs")
	if clean {
		return join.Woven, []byte(strings.Join(all, "")), api.OK
	}
	return join.Clash, []byte(strings.Join(all, "")), api.OK
}

// anySnapshot: some files that Check takes, in few folders, of few blobs and times.
func anySnapshot(r *rand.Rand, most, ids int) []tree.File {
	times := []float64{0, minusZero, 1, 1, 2, nan, oddNaN, inf, -inf}
	var l []tree.File
	for range r.Intn(most + 1) {
		p := ""
		for range 1 + r.Intn(3) {
			p = path.Join(append(path.Split(p), []string{"a", "b", "a.b", "a!", "\xff"}[r.Intn(5)])...)
		}
		l = append(l, file(p, r.Intn(ids), times[r.Intn(len(times))]))
	}
	return inOrder(l)
}

// inOrder: files in their order, without those that clash with one ahead of them.
func inOrder(l []tree.File) []tree.File {
	slices.SortStableFunc(l, func(f, g tree.File) int { return path.Compare(f.Path, g.Path) })
	var out []tree.File
	for _, f := range l {
		if len(out) == 0 || f.Path != out[len(out)-1].Path && !path.Under(f.Path, out[len(out)-1].Path) {
			out = append(out, f)
		}
	}
	return out
}

// changed: a snapshot with some files gone, new, or others.
func changed(r *rand.Rand, l []tree.File, ids int) []tree.File {
	out := anySnapshot(r, 2, ids)
	for _, f := range l {
		switch r.Intn(6) {
		case 0:
		case 1:
			out = append(out, file(f.Path, r.Intn(ids), f.Stamp))
		case 2:
			out = append(out, file(f.Path, r.Intn(ids), float64(r.Intn(3))))
		default:
			out = append(out, f)
		}
	}
	return inOrder(out)
}

// someTexts: texts that have much in common, one that is none, and one that is lacking.
func someTexts(r *rand.Rand) map[int]string {
	m := map[int]string{}
	for n := range 9 {
		var text []string
		for _, line := range []string{"a\n", "b\n", "c\n", "d\n", "e\n", "f"} {
			switch r.Intn(16) {
			case 0:
			case 1:
				text = append(text, "x\n")
			case 2:
				text = append(text, line, "y\n")
			default:
				text = append(text, line)
			}
		}
		m[n] = strings.Join(text, "")
	}
	m[r.Intn(9)] = ""
	m[7] = "a\nb\x00\nc\n"
	if r.Intn(3) == 0 {
		delete(m, 8)
	}
	return m
}

func TestMergeOfManySnapshots(t *testing.T) {
	r := rand.New(rand.NewSource(13))
	var kinds [5]int
	errors := 0
	for range 20000 {
		texts := someTexts(r)
		base := anySnapshot(r, 8, 9)
		snapshots := [3][]tree.File{base, changed(r, base, 9), changed(r, base, 9)}
		one, other := &blobs{texts: texts}, &blobs{texts: texts}
		l, e := join.Merge(snapshots, one)
		want, wantE := outcomesOf(snapshots, other)
		if e != wantE || !sameOutcomes(l, want) || !slices.Equal(one.asked, other.asked) {
			t.Fatalf("Merge of %s: %s, %v, not %s, %v; asked for %v, not %v", show(snapshots), show(l), e, show(want), wantE, one.asked, other.asked)
		}
		if e != api.OK {
			errors++
		}
		for _, o := range l {
			kinds[o.Kind]++
		}
	}
	if errors < 100 || slices.Min(kinds[1:]) < 500 || kinds[0] != 0 {
		t.Errorf("%d errors, kinds %v", errors, kinds)
	}
}

// P13.1

func TestKinds(t *testing.T) {
	if join.Keep != 1 || join.Woven != 2 || join.Clash != 3 || join.Blocked != 4 {
		t.Error("kinds")
	}
}

func TestMergeTellsChecksError(t *testing.T) {
	var many []tree.File
	for i := range api.MaxFiles + 1 {
		many = append(many, file(strconv.Itoa(1000+i), 1, 0))
	}
	good, lacking := files("a 1"), files("a 2")
	wrong, order, clash := files("a//b"), files("b", "a"), files("a", "a/b")
	for i, c := range []struct {
		snapshots [3][]tree.File
		want      api.Errno
	}{
		{[3][]tree.File{many, nil, nil}, api.ErrLong}, {[3][]tree.File{nil, many, nil}, api.ErrLong}, {[3][]tree.File{nil, nil, many}, api.ErrLong},
		{[3][]tree.File{wrong, nil, nil}, api.ErrPath}, {[3][]tree.File{good, wrong, good}, api.ErrPath}, {[3][]tree.File{good, good, wrong}, api.ErrPath},
		{[3][]tree.File{order, nil, nil}, api.ErrOrder}, {[3][]tree.File{nil, order, nil}, api.ErrOrder}, {[3][]tree.File{nil, nil, order}, api.ErrOrder},
		{[3][]tree.File{clash, nil, nil}, api.ErrClash}, {[3][]tree.File{nil, clash, nil}, api.ErrClash}, {[3][]tree.File{nil, nil, clash}, api.ErrClash},
		// The first that has one; and ahead of what the source says.
		{[3][]tree.File{clash, order, wrong}, api.ErrClash}, {[3][]tree.File{wrong, order, clash}, api.ErrPath}, {[3][]tree.File{nil, order, clash}, api.ErrOrder},
		{[3][]tree.File{good, many, wrong}, api.ErrLong}, {[3][]tree.File{nil, lacking, files("a 3", "")}, api.ErrPath},
		{[3][]tree.File{files("a", "a"), nil, nil}, api.ErrOrder}, {[3][]tree.File{nil, files(""), nil}, api.ErrPath},
		{[3][]tree.File{many[1:], many[1:], many[1:]}, api.OK}, {[3][]tree.File{nil, nil, nil}, api.OK},
	} {
		src := &blobs{}
		l, e := join.Merge(c.snapshots, src)
		if e != c.want || e != api.OK && len(l) != 0 || len(src.asked) != 0 {
			t.Errorf("snapshots %d: %d outcomes, %v, not %v; asked for %v", i, len(l), e, c.want, src.asked)
		}
	}
}

func TestMergeHasEachPathOnceAndInOrder(t *testing.T) {
	paths := func(l []join.Outcome) string {
		var all []string
		for _, o := range l {
			all = append(all, o.Path)
		}
		return strings.Join(all, " ")
	}
	for _, c := range []struct {
		base, ours, theirs []tree.File
		want               string
	}{
		{nil, nil, nil, ""}, {nil, files("a"), nil, "a"}, {nil, nil, files("a"), "a"}, {files("a"), nil, nil, ""},
		{nil, files("a", "c", "e"), files("b", "c", "d"), "a b c d e"}, {files("a", "b"), files("a", "b"), files("a", "b"), "a b"},
		{files("b"), files("a", "b"), files("b", "c"), "a b c"}, {files("a.b", "b"), files("a.b", "b"), files("a/b", "a.b", "b"), "a/b a.b b"},
		{nil, files("a!", "a.b"), files("a/c"), "a/c a! a.b"},
		{nil, files("a"), files("a/b", "a.b"), "a a/b a.b"}, {files("x 1"), files("x 2"), nil, "x"}, {files("x 1"), nil, files("x 2"), "x"},
		{files("x"), nil, files("x"), ""}, {files("x"), files("x"), nil, ""}, {files("m", "x"), files("a", "x"), files("x", "z"), "a x z"},
	} {
		if got := paths(merge(t, c.base, c.ours, c.theirs, nil)); got != c.want {
			t.Errorf("Merge of %s, %s, %s: %s, not %s", show(c.base), show(c.ours), show(c.theirs), got, c.want)
		}
	}
}

func TestMergeOfMostFiles(t *testing.T) {
	var l [3][]tree.File
	for i := range 3 * api.MaxFiles {
		l[i%3] = append(l[i%3], file(strings.Repeat("d/", 15)+strconv.Itoa(1000+i), i, float64(i)))
	}
	got := merge(t, l[0], l[1], l[2], nil)
	if len(got) != 2*api.MaxFiles || !join.Clean(got) || got[0].Path != l[1][0].Path || got[511].Path != l[2][255].Path {
		t.Errorf("%d outcomes", len(got))
	}
}

// P13.2

func TestWhatBecomesOfAPath(t *testing.T) {
	const gone, no = 0, -1
	texts := map[int]string{0: "z\n", 1: "a\n", 2: "b\n", 3: "c\n"}
	for _, c := range []struct{ base, ours, theirs, kind, id int }{
		// Ours and theirs alike.
		{no, no, no, gone, 0}, {1, no, no, gone, 0}, {0, no, no, gone, 0}, {no, 1, 1, join.Keep, 1}, {1, 1, 1, join.Keep, 1}, {2, 1, 1, join.Keep, 1}, {0, 1, 1, join.Keep, 1},
		{no, 0, 0, join.Keep, 0}, {1, 0, 0, join.Keep, 0},
		// Base and theirs alike: as ours has it.
		{no, 1, no, join.Keep, 1}, {1, no, 1, gone, 0}, {1, 2, 1, join.Keep, 2}, {no, 0, no, join.Keep, 0}, {0, no, 0, gone, 0}, {0, 1, 0, join.Keep, 1}, {1, 0, 1, join.Keep, 0},
		// Base and ours alike: as theirs has it.
		{no, no, 1, join.Keep, 1}, {1, 1, no, gone, 0}, {1, 1, 2, join.Keep, 2}, {no, no, 0, join.Keep, 0}, {0, 0, no, gone, 0}, {0, 0, 1, join.Keep, 1}, {1, 1, 0, join.Keep, 0},
		// None: a blob of which the id is zero is one, too.
		{1, 2, no, join.Clash, 0}, {1, no, 2, join.Clash, 0}, {0, 1, no, join.Clash, 0}, {0, no, 1, join.Clash, 0}, {1, 0, no, join.Clash, 0}, {1, no, 0, join.Clash, 0},
		{1, 2, 3, join.Clash, 0}, {no, 1, 2, join.Clash, 0}, {no, 0, 1, join.Clash, 0}, {no, 1, 0, join.Clash, 0},
	} {
		var l [3][]tree.File
		for i, n := range []int{c.base, c.ours, c.theirs} {
			if n >= 0 {
				l[i] = []tree.File{file("p", n, 0)}
			}
		}
		src := &blobs{texts: texts}
		got, e := join.Merge(l, src)
		if c.kind == gone {
			if e != api.OK || len(got) != 0 {
				t.Errorf("%v: %s, %v", c, show(got), e)
			}
			continue
		}
		if e != api.OK || len(got) != 1 {
			t.Errorf("%v: %s, %v", c, show(got), e)
			continue
		}
		want := outcome("p", c.kind, c.id, 0, string(got[0].Text), c.base, c.ours, c.theirs)
		if !sameOutcome(got[0], want) || c.kind == join.Keep && (len(got[0].Text) != 0 || len(src.asked) != 0) {
			t.Errorf("%v: %s; asked for %v", c, show(got), src.asked)
		}
	}
}

func TestTimes(t *testing.T) {
	const no = 12345
	for _, c := range []struct{ base, ours, theirs, want float64 }{
		// If one side hasn't the path, the other's.
		{no, 1, no, 1}, {no, no, 2, 2}, {no, oddNaN, no, nan}, {no, no, oddNaN, nan}, {no, minusZero, no, minusZero}, {no, no, -inf, -inf},
		// If base has it with the same time as one of them, the other's, be it the earlier one.
		{5, 5, 1, 1}, {5, 1, 5, 1}, {5, 5, 9, 9}, {5, 9, 5, 9}, {5, 5, 5, 5}, {nan, oddNaN, 1, 1}, {oddNaN, 1, nan, 1}, {inf, inf, -inf, -inf}, {0, 0, minusZero, minusZero},
		{minusZero, 0, minusZero, 0}, {0, minusZero, 0, minusZero}, {5, 5, oddNaN, nan}, {5, oddNaN, 5, nan}, {oddNaN, oddNaN, oddNaN, nan}, {nan, nan, minusZero, minusZero},
		// Else the later one.
		{5, 1, 2, 2}, {5, 2, 1, 2}, {5, 6, 4, 6}, {5, 4, 6, 6}, {no, 1, 2, 2}, {no, 2, 1, 2}, {no, 3, 3, 3}, {0, minusZero, -1, minusZero}, {minusZero, 0, 1, 1}, {1, 0, minusZero, 0},
		{1, minusZero, 0, 0}, {5, oddNaN, inf, nan}, {5, inf, oddNaN, nan}, {no, oddNaN, oddNaN, nan}, {no, -inf, -1, -1}, {no, minusZero, 0, 0}, {no, 0, minusZero, 0},
		{oddNaN, 1, 2, 2}, {oddNaN, 2, 1, 2},
	} {
		for _, ids := range [][3]int{{1, 1, 1}, {1, 2, 2}, {1, 2, 1}, {1, 1, 2}, {1, 2, 3}} {
			if (c.ours == no || c.theirs == no) && ids[1] == ids[2] {
				continue
			}
			var l [3][]tree.File
			for i, f := range []float64{c.base, c.ours, c.theirs} {
				if f != no {
					l[i] = []tree.File{file("p", ids[i], f)}
				}
			}
			got := merge(t, l[0], l[1], l[2], map[int]string{1: "a", 2: "b", 3: "c"})
			if len(got) != 1 || math.Float64bits(got[0].Stamp) != math.Float64bits(c.want) {
				t.Errorf("times %v, ids %v: %s", c, ids, show(got))
			}
		}
	}
}

func TestTimesWhereASideHasNot(t *testing.T) {
	// Both changed it, one by taking it away: base's time says nothing.
	for _, f := range []float64{1, 5, 9, nan, minusZero} {
		base, side := []tree.File{file("p", 1, 5)}, []tree.File{file("p", 2, f)}
		for _, l := range [][]join.Outcome{merge(t, base, side, nil, nil), merge(t, base, nil, side, nil)} {
			if len(l) != 1 || l[0].Kind != join.Clash || math.Float64bits(l[0].Stamp) != math.Float64bits(f) {
				t.Errorf("time %v: %s", f, show(l))
			}
		}
	}
}

// P13.3

func TestTexts(t *testing.T) {
	conflict := func(ours, base, theirs string) string {
		return "<<<<<<< ours\n" + ours + "||||||| base\n" + base + "=======\n" + theirs + ">>>>>>> theirs\n"
	}
	for _, c := range []struct {
		base, ours, theirs string
		kind               int
		want               string
	}{
		{"a\nb\nc\n", "x\nb\nc\n", "a\nb\ny\n", join.Woven, "x\nb\ny\n"}, {"a\nb\nc", "x\nb\nc", "a\nb\ny", join.Woven, "x\nb\ny"},
		{"a\nb\n", "b\n", "a\n", join.Clash, conflict("b\n", "a\nb\n", "a\n")}, {"a\nb\nc\n", "b\nc\n", "a\nb\n", join.Woven, "b\n"},
		{"a\n", "x\n", "y\n", join.Clash, conflict("x\n", "a\n", "y\n")}, {"a", "x", "y", join.Clash, conflict("x\n", "a\n", "y\n")},
		{"a\nb\n", "x\nb\n", "y\nb\n", join.Clash, conflict("x\n", "a\n", "y\n") + "b\n"}, {"", "x\n", "y", join.Clash, conflict("x\n", "", "y\n")},
		{"a\n", "x\n", "x\n", join.Woven, "x\n"}, {"a\n", "", "", join.Woven, ""}, {"a\n", "", "b\n", join.Clash, conflict("", "a\n", "b\n")},
		{"a\n", "a\n", "a\n", join.Woven, "a\n"}, {"a\r\n\xff\n\n", "a\r\n\xff\n\nb", "\xfe\r\n\xff\n\n", join.Woven, "\xfe\r\n\xff\n\nb"}, {"", "", "", join.Woven, ""},
		{"a\nb\nc\n", "a\nx\nc\n", "a\nb\nc\nd\n", join.Woven, "a\nx\nc\nd\n"},
	} {
		l := merge(t, []tree.File{file("p", 1, 0)}, []tree.File{file("p", 2, 1)}, []tree.File{file("p", 3, 2)}, map[int]string{1: c.base, 2: c.ours, 3: c.theirs})
		if want := outcome("p", c.kind, 0, 2, c.want, 1, 2, 3); !sameOutcomes(l, []join.Outcome{want}) {
			t.Errorf("%v: %s", c, show(l))
		}
	}
}

func TestTextsWithoutABase(t *testing.T) {
	for _, c := range []struct {
		ours, theirs string
		kind         int
		want         string
	}{
		{"a\n", "a\n", join.Woven, "a\n"}, {"", "", join.Woven, ""}, {"a\nb", "a\nc", join.Clash, "<<<<<<< ours\na\nb\n||||||| base\n=======\na\nc\n>>>>>>> theirs\n"},
		// An empty side is as the base's no lines are: only the other one is changed.
		{"a\n", "", join.Woven, "a\n"}, {"", "a", join.Woven, "a"},
	} {
		// A base with another path says nothing, nor does a text that has base's id of zero.
		for _, base := range [][]tree.File{nil, files("a 0", "q 0")} {
			src := &blobs{texts: map[int]string{0: c.ours + c.theirs, 2: c.ours, 3: c.theirs}}
			l, e := join.Merge([3][]tree.File{base, files("p 2"), files("p 3")}, src)
			if want := outcome("p", c.kind, 0, 0, c.want, -1, 2, 3); e != api.OK || !sameOutcomes(l, []join.Outcome{want}) || !slices.Equal(src.asked, []int{2, 3}) {
				t.Errorf("%v: %s, %v; asked for %v", c, show(l), e, src.asked)
			}
		}
	}
}

func TestWhatIsAskedFor(t *testing.T) {
	const none, lacking = "\x00", "lacking"
	for _, c := range []struct {
		base, ours, theirs string
		asked              []int
		want               api.Errno
	}{
		{"a\n", "b\n", "c\n", []int{1, 2, 3}, 0}, {lacking, "b\n", "c\n", []int{1}, 1001}, {"a\n", lacking, "c\n", []int{1, 2}, 1002}, {"a\n", "b\n", lacking, []int{1, 2, 3}, 1003},
		{lacking, lacking, lacking, []int{1}, 1001}, {"a\n", lacking, lacking, []int{1, 2}, 1002}, {lacking, none, none, []int{1}, 1001}, {"a\n", lacking, none, []int{1, 2}, 1002},
		// Those behind what is no text aren't asked for.
		{none, "b\n", "c\n", []int{1}, 0}, {"a\n", none, "c\n", []int{1, 2}, 0}, {"a\n", "b\n", none, []int{1, 2, 3}, 0}, {none, lacking, lacking, []int{1}, 0}, {"a\n", none, lacking, []int{1, 2}, 0},
		{"a\nb\x00", "x", "y", []int{1}, 0}, {"", "x\n\x00\n", "y", []int{1, 2}, 0}, {"", "", "\x00\x00", []int{1, 2, 3}, 0},
	} {
		src := &blobs{texts: map[int]string{}}
		isNone := false
		for i, s := range []string{c.base, c.ours, c.theirs} {
			if s != lacking {
				src.texts[i+1] = s
				isNone = isNone || strings.Contains(s, none)
			}
		}
		l, e := join.Merge([3][]tree.File{files("o 1", "p 1"), files("o 1", "p 2"), files("o 1", "p 3")}, src)
		if e != c.want || !slices.Equal(src.asked, c.asked) || e != api.OK && len(l) != 0 {
			t.Errorf("%v: %s, %v; asked for %v", c, show(l), e, src.asked)
			continue
		}
		if want := outcome("p", join.Clash, 0, 0, "", 1, 2, 3); e == api.OK && isNone && !(len(l) == 2 && sameOutcome(l[1], want)) {
			t.Errorf("%v: %s", c, show(l))
		}
	}
}

func TestNobodyIsAskedWhereASideHasNot(t *testing.T) {
	for _, s := range [][3][]tree.File{{files("p 1"), files("p 2"), nil}, {files("p 1"), nil, files("p 2")}, {files("p 0"), nil, files("p 2")}, {files("p 1"), files("p 0"), nil}} {
		src := &blobs{}
		l, e := join.Merge(s, src)
		if e != api.OK || len(l) != 1 || l[0].Kind != join.Clash || len(l[0].Text) != 0 || l[0].ID != (api.ID{}) || len(src.asked) != 0 {
			t.Errorf("%s: %s, %v; asked for %v", show(s), show(l), e, src.asked)
		}
	}
}

func TestTheFirstErrorOfTheSource(t *testing.T) {
	src := &blobs{texts: map[int]string{1: "a", 2: "b", 3: "c"}}
	// By the order of the paths: those of a/z ahead of a.b, and each path's behind those of the paths ahead.
	s := [3][]tree.File{files("a/z 1", "a.b 1", "b 1"), files("a/z 2", "a.b 2", "b 4"), files("a/z 3", "a.b 5", "b 6")}
	l, e := join.Merge(s, src)
	if e != 1005 || len(l) != 0 || !slices.Equal(src.asked, []int{1, 2, 3, 1, 2, 5}) {
		t.Errorf("%s, %v; asked for %v", show(l), e, src.asked)
	}
}

func TestTooManyLines(t *testing.T) {
	some := func(n int, last string) string { return strings.Repeat("x\n", n-1) + last }
	for _, c := range []struct {
		base, ours, theirs int
		clash              bool
	}{
		{1024, 1024, 1024, false}, {1024, 1025, 1, true}, {1024, 1, 1025, true}, {1025, 1023, 1023, false}, {1025, 1024, 1, true}, {1025, 1, 1024, true}, {1, 1 << 19, 1 << 19, false}, {2, 1<<19 + 1, 1, true}, {2, 1, 1<<19 + 1, true},
	} {
		texts := map[int]string{1: some(c.base, "a"), 2: some(c.ours, "b"), 3: some(c.theirs, "c")}
		l := merge(t, files("p 1"), files("p 2"), files("p 3"), texts)
		if len(l) != 1 || l[0].Kind != join.Clash || c.clash != (len(l[0].Text) == 0) {
			t.Errorf("%v lines: %s", c, show(l))
		}
		if join.Clean(l) || l[0].ID != (api.ID{}) || l[0].Has != [3]bool{true, true, true} {
			t.Errorf("%v lines: %s", c, show(l))
		}
	}
	// Without a base there is nothing to hold the lines against.
	l := merge(t, nil, files("p 2"), files("p 3"), map[int]string{2: some(2000, "b"), 3: some(2000, "c")})
	if len(l) != 1 || l[0].Kind != join.Clash || len(lines.Split(l[0].Text)) != 4004 {
		t.Errorf("without a base: %s", show(l))
	}
}

// P13.4

func TestBlocked(t *testing.T) {
	texts := map[int]string{1: "a\nb\nc\n", 2: "x\nb\nc\n", 3: "a\nb\ny\n", 4: "q"}
	for _, c := range []struct {
		base, ours, theirs []tree.File
		want               string
	}{
		{nil, files("p 1"), files("p/q 2"), "p 1, p/q 4"}, {nil, files("p/q 1"), files("p 2"), "p 1, p/q 4"}, {nil, files("p 1"), files("p.q 2"), "p 1, p.q 1"},
		{nil, files("p 1"), files("pq 1", "q 1"), "p 1, pq 1, q 1"}, {nil, files("p/q 1"), files("p/r 1"), "p/q 1, p/r 1"},
		// All that lie under one, those deep below it and those of several too, and none behind them.
		{nil, files("p 1"), files("p/a 1", "p/b/c 1", "p!/a 1", "q 1"), "p 1, p/a 4, p/b/c 4, p!/a 1, q 1"},
		{files("p/a/b 1"), files("p/a 2"), files("p 3"), "p 1, p/a 4"}, {files("p/a/b 1"), files("p/a/b 2"), files("p 3"), "p 1, p/a/b 4"},
		{files("a 1", "p/a/b 1", "p/a/c 1"), files("a 2", "p/a 2", "p/b 4"), files("a 3", "p 3"), "a 2, p 1, p/a 4, p/b 4"},
		{files("p/a/b 1"), files("p/a/b 2", "r 1"), files("p/a 3", "q 1"), "p/a 1, p/a/b 4, q 1, r 1"},
		// A folder that was turned into a file by one alone, and a file into a folder.
		{files("p/q 1"), files("p 1"), files("p/q 1"), "p 1"}, {files("p 1"), files("p/q 1"), files("p 1"), "p/q 1"}, {files("p 1"), files("p/q 1"), files("p 2"), "p 3, p/q 4"},
		{files("p/q 1"), files("p 1"), files("p/q 1", "p/r 1"), "p 1, p/r 4"}, {files("p 1"), files("p 2"), files("p/q 1", "q 1"), "p 3, p/q 4, q 1"},
	} {
		var got []string
		for _, o := range merge(t, c.base, c.ours, c.theirs, texts) {
			got = append(got, o.Path+" "+strconv.Itoa(o.Kind))
		}
		if s := strings.Join(got, ", "); s != c.want {
			t.Errorf("Merge of %s, %s, %s: %s, not %s", show(c.base), show(c.ours), show(c.theirs), s, c.want)
		}
	}
}

func TestAllElseOfWhatIsBlockedStays(t *testing.T) {
	texts := map[int]string{1: "a\nb\nc\n", 2: "x\nb\nc\n", 3: "a\nb\ny\n"}
	base := []tree.File{file("p/a", 1, 1), file("p/b", 1, 1), file("p/d/e", 1, 1), file("p/d/f", 1, 1)}
	ours := []tree.File{file("p/a", 2, 2), file("p/b", 1, 1), file("p/c", 4, nan), file("p/d", 2, 5)}
	theirs := []tree.File{file("p", 3, 9)}
	want := []join.Outcome{outcome("p", join.Keep, 3, 9, "", -1, -1, 3), outcome("p/a", join.Blocked, 0, 2, "", 1, 2, -1), outcome("p/c", join.Blocked, 4, nan, "", -1, 4, -1), outcome("p/d", join.Blocked, 2, 5, "", -1, 2, -1)}
	if l := merge(t, base, ours, theirs, texts); !sameOutcomes(l, want) {
		t.Errorf("%s", show(l))
	}
	// A path that base alone has is no outcome, and blocks nothing.
	want = []join.Outcome{outcome("p/a", join.Clash, 0, 3, "<<<<<<< ours\nx\nb\nc\n||||||| base\n=======\na\nb\ny\n>>>>>>> theirs\n", -1, 2, 3)}
	if l := merge(t, []tree.File{file("p", 1, 1)}, []tree.File{file("p/a", 2, 3)}, []tree.File{file("p/a", 3, 2)}, texts); !sameOutcomes(l, want) {
		t.Errorf("%s", show(l))
	}
}

func TestClean(t *testing.T) {
	for _, c := range []struct {
		kinds []int
		want  bool
	}{
		{nil, true}, {[]int{join.Keep}, true}, {[]int{join.Woven}, true}, {[]int{join.Keep, join.Woven, join.Keep}, true}, {[]int{join.Clash}, false}, {[]int{join.Blocked}, false},
		{[]int{join.Keep, join.Clash}, false}, {[]int{join.Clash, join.Keep}, false}, {[]int{join.Keep, join.Blocked, join.Woven}, false}, {[]int{0}, false}, {[]int{-1}, false}, {[]int{5}, false},
		{[]int{join.Keep, math.MinInt}, false}, {[]int{math.MaxInt}, false},
	} {
		var l []join.Outcome
		for _, k := range c.kinds {
			l = append(l, join.Outcome{Kind: k})
		}
		if join.Clean(l) != c.want {
			t.Errorf("Clean of kinds %v", c.kinds)
		}
	}
}

func TestMoved(t *testing.T) {
	if l := join.Moved(nil); len(l) != 0 {
		t.Errorf("Moved of nothing: %s", show(l))
	}
	l := []join.Outcome{
		outcome("p", join.Woven, 0, 2, "text\n", 1, 2, 3), outcome("", -7, 9, minusZero, "<<<<<<< ours\n", 1, 2, -1), outcome("a//b", join.Blocked, 4, inf, "", -1, -1, 5),
		outcome("\x00", join.Keep, 3, nan, "", -1, -1, -1), {Path: "p", Stamp: oddNaN, IDs: [3]api.ID{num(1), num(2), num(3)}}, {Kind: 77, Has: [3]bool{false, true, false}},
	}
	want := []join.Outcome{
		outcome("p", join.Woven, 0, 2, "text\n", 1, 3, 2), outcome("", -7, 9, minusZero, "<<<<<<< ours\n", 1, -1, 2), outcome("a//b", join.Blocked, 4, inf, "", -1, 5, -1),
		outcome("\x00", join.Keep, 3, nan, "", -1, -1, -1), {Path: "p", Stamp: oddNaN, IDs: [3]api.ID{num(1), num(3), num(2)}}, {Kind: 77, Has: [3]bool{false, false, true}},
	}
	if m := join.Moved(l); !sameOutcomes(m, want) {
		t.Errorf("Moved: %s", show(m))
	}
	if m := join.Moved(join.Moved(l)); !sameOutcomes(m, l) {
		t.Errorf("Moved twice: %s", show(m))
	}
}

func TestMovedIsTheMergeTheOtherWayRound(t *testing.T) {
	r := rand.New(rand.NewSource(134))
	for range 5000 {
		texts := someTexts(r)
		texts[8] = "all\n"
		base := anySnapshot(r, 6, 9)
		ours, theirs := changed(r, base, 9), changed(r, base, 9)
		there, back := join.Moved(merge(t, base, ours, theirs, texts)), merge(t, base, theirs, ours, texts)
		for i := range there {
			if len(there[i].Text) > 0 && there[i].Kind != join.Woven {
				there[i].Text, back[i].Text = nil, nil // the sides stand the other way round in it
			}
		}
		if !sameOutcomes(there, back) {
			t.Fatalf("Merge of %s, %s, %s: %s, and the other way round %s", show(base), show(ours), show(theirs), show(there), show(back))
		}
	}
}

// P2

// roomy: files with one more in their spare room.
func roomy(l []tree.File) []tree.File {
	return append(slices.Clone(l), file("room", 99, 9))[:len(l)]
}

// shared is a source that hands out its own bytes, each with something in their spare room.
type shared map[api.ID][]byte

func (s shared) Text(id api.ID) ([]byte, api.Errno) { return s[id], api.OK }

func TestWhatIsHandedInIsLeftAsItIs(t *testing.T) {
	src, keep := shared{}, map[api.ID]string{}
	for n, s := range []string{"", "a\nb\nc\n", "x\nb\nc\n", "a\nb\ny\n", "q\nb\nc\n"} {
		b := append([]byte(s), "room"...)
		src[num(n)], keep[num(n)] = b[:len(s)], string(b)
	}
	s := [3][]tree.File{roomy(files("a 1", "b 1", "c 1", "d 1")), roomy(files("a 2", "b 2", "c 1", "d 1")), roomy(files("a 3", "b 4", "c 2", "d/e 1"))}
	was := [3][]tree.File{}
	for i := range s {
		was[i] = slices.Clone(s[i][:len(s[i])+1])
	}
	l, e := join.Merge(s, src)
	again, _ := join.Merge(s, src)
	if e != api.OK || len(l) != 4 || l[0].Kind != join.Woven || l[1].Kind != join.Clash || len(l[1].Text) == 0 {
		t.Fatalf("Merge: %s, %v", show(l), e)
	}
	want := join.Moved(join.Moved(l))
	for i := range again {
		text := again[i].Text[:cap(again[i].Text)]
		for j := range text {
			text[j] = '!'
		}
	}
	clear(again[:cap(again)])
	for i := range s {
		if !slices.Equal(s[i][:len(s[i])+1], was[i]) {
			t.Errorf("snapshot %d was changed", i)
		}
	}
	for id, b := range src {
		if string(b[:len(b)+4]) != keep[id] {
			t.Errorf("a source's bytes were changed: %q", b[:len(b)+4])
		}
		for i := range b {
			b[i] = '?'
		}
	}
	if !sameOutcomes(l, want) {
		t.Errorf("outcomes share memory with others, or with a source's bytes: %s", show(l))
	}
	// One outcome's text and the next one's.
	text := append(l[0].Text, "more and more and more and more"...)
	if clear(text[:cap(text)]); !sameOutcomes(l[1:], want[1:]) {
		t.Errorf("outcomes share memory with one another: %s", show(l))
	}
}

// fickle is a source whose bytes are always the same place, with others in it.
type fickle struct {
	texts [4]string
	room  [64]byte
}

func (f *fickle) Text(id api.ID) ([]byte, api.Errno) {
	return f.room[:copy(f.room[:], f.texts[id[31]])], api.OK
}

func TestASourcesBytesAreNotKept(t *testing.T) {
	src := &fickle{texts: [4]string{1: "a\nb\nc\n", 2: "x\nb\nc\n", 3: "a\nb\ny\n"}}
	l, e := join.Merge([3][]tree.File{files("p 1"), files("p 2"), files("p 3")}, src)
	if e != api.OK || len(l) != 1 || l[0].Kind != join.Woven || string(l[0].Text) != "x\nb\ny\n" {
		t.Errorf("%s, %v", show(l), e)
	}
}

func TestMovedSharesNothing(t *testing.T) {
	text := append([]byte("text"), "room"...)
	l := []join.Outcome{{Path: "a", Kind: join.Woven, Text: text[:4], Has: [3]bool{true, true, false}}, {Path: "b", Text: text[:4]}, {Path: "room"}}
	was := join.Moved(join.Moved(l))
	m := join.Moved(l[:2])
	if !sameOutcomes(l, was) || string(text) != "textroom" {
		t.Errorf("Moved changed what it was given: %s", show(l))
	}
	other := join.Moved(l[:2])
	for i := range m {
		clear(m[i].Text[:cap(m[i].Text)])
	}
	if string(text) != "textroom" || string(other[0].Text) != "text" {
		t.Errorf("Moved shares a text: %q", text)
	}
	clear(other[0].Text[:cap(other[0].Text)])
	if string(other[1].Text) != "text" {
		t.Error("two texts of one answer share memory")
	}
	if clear(m[:cap(m)]); !sameOutcomes(l, was) {
		t.Errorf("Moved shares the list: %s", show(l))
	}
}

func TestARefusedMergeChangesNothing(t *testing.T) {
	s := [3][]tree.File{roomy(files("a 1", "b 1")), roomy(files("a 2", "b 2")), roomy(files("a 3", "b 9"))}
	was := [3][]tree.File{slices.Clone(s[0][:3]), slices.Clone(s[1][:3]), slices.Clone(s[2][:3])}
	texts := map[int]string{1: "a", 2: "b", 3: "c"}
	for range 2 {
		if l, e := join.Merge(s, &blobs{texts: texts}); e != 1009 || len(l) != 0 {
			t.Errorf("%s, %v", show(l), e)
		}
	}
	for i := range s {
		if !slices.Equal(s[i][:3], was[i]) {
			t.Errorf("snapshot %d was changed", i)
		}
	}
}

// P1

func TestAnySnapshotsEnd(t *testing.T) {
	r := rand.New(rand.NewSource(131))
	pieces := []string{"", "a", "b", "/", ".", "..", "\x00", "\xff", "a/b", strings.Repeat("x", 70), strings.Repeat("y/", 17)}
	for range 20000 {
		var s [3][]tree.File
		for i := range s {
			for range r.Intn(4) {
				s[i] = append(s[i], file(pieces[r.Intn(len(pieces))]+pieces[r.Intn(len(pieces))], r.Intn(4), []float64{0, minusZero, nan, oddNaN, inf, -inf}[r.Intn(6)]))
			}
		}
		want := api.OK
		for _, l := range s {
			if e := tree.Check(l); want == api.OK {
				want = e
			}
		}
		l, e := join.Merge(s, &blobs{texts: map[int]string{0: "", 1: "a", 2: "\x00", 3: "b\nb"}})
		if e != want || e != api.OK && len(l) != 0 {
			t.Fatalf("Merge of %s: %s, %v, not %v", show(s), show(l), e, want)
		}
		join.Clean(join.Moved(l))
	}
}

func TestManyTextsEnd(t *testing.T) {
	texts := map[int]string{}
	for n := 1; n <= 3; n++ {
		var text strings.Builder
		for i := range 1000 {
			text.WriteString(strconv.Itoa(i * n % 997))
			text.WriteString("\n")
		}
		texts[n] = text.String()
	}
	var s [3][]tree.File
	for i := range 40 {
		for j := range s {
			s[j] = append(s[j], file(strconv.Itoa(100+i), j+1, 0))
		}
	}
	if l := merge(t, s[0], s[1], s[2], texts); len(l) != 40 || join.Clean(l) {
		t.Errorf("%d outcomes", len(l))
	}
}
