package path_test

import (
	"cmp"
	"math/rand"
	"slices"
	"strings"
	"testing"

	"towline/api"
	"towline/path"
)

// texts: all texts of at most n of these signs.
func texts(signs string, n int) []string {
	all := []string{""}
	level := all
	for range n {
		var next []string
		for _, s := range level {
			for i := range len(signs) {
				next = append(next, s+signs[i:i+1])
			}
		}
		all = append(all, next...)
		level = next
	}
	return all
}

// anyText: any bytes, those at the edges more often.
func anyText(r *rand.Rand, n int) string {
	b := make([]byte, r.Intn(n+1))
	for i := range b {
		b[i] = "/./a\x00\x7f\x1f\x80\xff"[r.Intn(9)]
		if r.Intn(4) == 0 {
			b[i] = byte(r.Intn(256))
		}
	}
	return string(b)
}

// anyPath: a path that is right, of few and short names.
func anyPath(r *rand.Rand) string {
	names := make([]string, 1+r.Intn(4))
	for i := range names {
		names[i] = []string{"a", "b", "ab", "a.", "a b", "a0"}[r.Intn(1+r.Intn(6))]
	}
	return strings.Join(names, "/")
}

// P5.1

func TestNameOfEachByte(t *testing.T) {
	for c := range 256 {
		want := c >= 32 && c != 127 && c != '/'
		x := string([]byte{byte(c)})
		for _, s := range []string{x + "ab", "a" + x + "b", "ab" + x, x + "é", "é" + x, "\xc3" + x, x + "\xa9", x + x + x} {
			if path.Name(s) != want {
				t.Errorf("Name of %q: %v", s, !want)
			}
		}
		if path.Name(x) != (want && c != '.') {
			t.Errorf("Name of %q: %v", x, path.Name(x))
		}
	}
}

func TestName(t *testing.T) {
	for _, s := range []string{"a", "...", ".a", "a.", "..a", "a..", " ", "*", "\\", "~", "\x80", "\xff\xfe", "名前", strings.Repeat("a", 64), strings.Repeat("é", 32), strings.Repeat(".", 64), strings.Repeat("\xff", 64)} {
		if !path.Name(s) {
			t.Errorf("%q is no name", s)
		}
	}
	for _, s := range []string{"", ".", "..", "/", "a/b", "a/", "/a", "\n", "a\x00", "\x7f", strings.Repeat("a", 65), strings.Repeat("é", 33), strings.Repeat("a", 100000)} {
		if path.Name(s) {
			t.Errorf("%q is a name", s)
		}
	}
}

func TestCheck(t *testing.T) {
	if path.MaxDepth != 16 {
		t.Error("MaxDepth")
	}
	name := strings.Repeat("a", 64)
	most := strings.Repeat(name+"/", 3) + name[:60]
	deep := strings.Repeat("a/", 15) + "a"
	for _, c := range []struct {
		p    string
		want api.Errno
	}{
		{"a", api.OK}, {"a/b", api.OK}, {"a.b/...", api.OK}, {" / ", api.OK}, {"\xff/\x80", api.OK},
		{most, api.OK}, {deep, api.OK}, {name + "/" + name, api.OK},
		{strings.Repeat("1234567890abcde/", 15) + "1234567890abcde", api.OK}, // 16 names, 255 bytes
		{most + "a", api.ErrLong}, {deep + "/a", api.ErrLong}, {most + "/", api.ErrLong}, {deep + "/", api.ErrLong}, {"/" + deep, api.ErrLong},
		{strings.Repeat("a", 256), api.ErrLong}, {strings.Repeat("/", 16), api.ErrLong}, {strings.Repeat("/", 300), api.ErrLong},
		{strings.Repeat("\x00", 256), api.ErrLong}, {strings.Repeat("./", 16) + ".", api.ErrLong}, {strings.Repeat("a", 1<<20), api.ErrLong},
		{"", api.ErrPath}, {"/", api.ErrPath}, {"//", api.ErrPath}, {"a//b", api.ErrPath}, {"/a", api.ErrPath}, {"a/", api.ErrPath},
		{".", api.ErrPath}, {"..", api.ErrPath}, {"a/.", api.ErrPath}, {"../a", api.ErrPath}, {"a/../b", api.ErrPath}, {"a/./b", api.ErrPath},
		{"a\n", api.ErrPath}, {"a/\x7f/b", api.ErrPath}, {"a/\x1f", api.ErrPath}, {"\x00", api.ErrPath},
		{name + "a", api.ErrPath}, {"a/" + name + "a/b", api.ErrPath}, {strings.Repeat("a", 255), api.ErrPath},
		{strings.Repeat("/", 15), api.ErrPath}, {deep[:30] + ".", api.ErrPath},
	} {
		if e := path.Check(c.p); e != c.want {
			t.Errorf("Check of %q: %v, not %v", c.p, e, c.want)
		}
	}
}

func TestSplitAndJoin(t *testing.T) {
	for _, c := range []struct {
		p    string
		want []string
	}{
		{"", nil},
		{"a", []string{"a"}},
		{"a/b", []string{"a", "b"}},
		{"ab/cd/ef", []string{"ab", "cd", "ef"}},
		{"/", []string{"", ""}},
		{"//", []string{"", "", ""}},
		{"/a", []string{"", "a"}},
		{"a/", []string{"a", ""}},
		{"a//b", []string{"a", "", "b"}},
		{"\xff/\x00", []string{"\xff", "\x00"}},
	} {
		got := path.Split(c.p)
		if !slices.Equal(got, c.want) {
			t.Errorf("Split of %q: %q", c.p, got)
		}
		if back := path.Join(c.want...); back != c.p {
			t.Errorf("Join of %q: %q", c.want, back)
		}
	}
	if path.Join("") != "" || path.Join("", "") != "/" || path.Join("a/b", "c") != "a/b/c" || path.Join() != "" {
		t.Error("Join of texts that are no names")
	}
	r := rand.New(rand.NewSource(51))
	for range 5000 {
		p := anyText(r, 20)
		names := path.Split(p)
		want := strings.Count(p, "/") + 1
		if p == "" {
			want = 0
		}
		if len(names) != want || path.Join(names...) != p || slices.ContainsFunc(names, func(s string) bool { return strings.Contains(s, "/") }) {
			t.Errorf("Split of %q: %q", p, names)
		}
	}
}

// P5.2

func TestParent(t *testing.T) {
	for p, want := range map[string]string{
		"": "", "a": "", "a/b": "a", "a/b/c": "a/b", "/": "", "//": "/", "/a": "", "a/": "a", "a//": "a/", "a//b": "a/", "\xff/\x00/x": "\xff/\x00",
	} {
		if got := path.Parent(p); got != want {
			t.Errorf("Parent of %q: %q", p, got)
		}
	}
}

func TestUnder(t *testing.T) {
	for _, c := range []struct {
		p, folder string
		want      bool
	}{
		{"a/b", "a", true}, {"a/b/c", "a", true}, {"a/b/c", "a/b", true}, {"a/", "a", true}, {"//", "/", true}, {"/a", "", true}, {"a", "", true}, {"/", "", true}, {"a//b", "a/", true},
		{"", "", false}, {"a", "a", false}, {"ab", "a", false}, {"a.b", "a", false}, {"ab/c", "a", false}, {"a", "a/b", false}, {"a/b", "b", false}, {"", "a", false}, {"/", "/", false}, {"a/b", "a/", false}, {"b/a/c", "a", false}, {"a/b", "A", false},
	} {
		if got := path.Under(c.p, c.folder); got != c.want {
			t.Errorf("Under of %q and %q: %v", c.p, c.folder, got)
		}
	}
	all := texts("a./", 4)
	for _, p := range all {
		for _, folder := range all {
			want := strings.HasPrefix(p, folder+"/")
			if folder == "" {
				want = p != ""
			}
			if path.Under(p, folder) != want {
				t.Errorf("Under of %q and %q: %v", p, folder, !want)
			}
		}
	}
}

// order: the same as Compare, from the words.
func order(a, b string) int {
	x, y := path.Split(a), path.Split(b)
	for i := range min(len(x), len(y)) {
		if x[i] != y[i] {
			return strings.Compare(x[i], y[i])
		}
	}
	return cmp.Compare(len(x), len(y))
}

func TestCompare(t *testing.T) {
	rising := []string{"", "/", "//", "/a", "\x00", "\x00/a", "\x01", "a", "a/", "a//", "a//b", "a/\x00", "a/b", "a/b/c", "a/b.c", "a\x00", "a\x00/b", "a.b", "a.b/a", "ab", "b", "\xff"}
	for i, a := range rising {
		for j, b := range rising {
			if got := path.Compare(a, b); got != cmp.Compare(i, j) {
				t.Errorf("Compare of %q and %q: %d", a, b, got)
			}
		}
	}
	all := texts("/a.\x00\xff", 4)
	for _, a := range all {
		for _, b := range all {
			if got := path.Compare(a, b); got != order(a, b) {
				t.Fatalf("Compare of %q and %q: %d", a, b, got)
			}
		}
	}
}

// P5.3

// clashOf: the same from the words: all that are ahead are looked at.
func clashOf(list []string) (string, string) {
	sorted := slices.Clone(list)
	slices.SortStableFunc(sorted, order)
	for i, p := range sorted {
		for _, ahead := range slices.Backward(sorted[:i]) {
			if p == ahead || strings.HasPrefix(p, ahead+"/") {
				return p, ahead
			}
		}
	}
	return "", ""
}

func TestClash(t *testing.T) {
	for _, c := range []struct {
		list        []string
		first, than string
	}{
		{nil, "", ""},
		{[]string{"a"}, "", ""},
		{[]string{"a", "b", "a.b", "ab", "ab.c/d"}, "", ""},
		{[]string{"a/b", "a/c", "a/bc", "a/b.c"}, "", ""},
		{[]string{"a", "a"}, "a", "a"},
		{[]string{"a/b", "a"}, "a/b", "a"},
		{[]string{"a", "a.b", "a/b"}, "a/b", "a"},
		{[]string{"a/b/c", "a.b", "a"}, "a/b/c", "a"},
		{[]string{"a/b", "a", "a"}, "a", "a"},
		{[]string{"a/b", "a/b", "a"}, "a/b", "a"},
		{[]string{"b/c", "b", "a/x", "a/x/y"}, "a/x/y", "a/x"},
		{[]string{"z", "z", "b/c", "b"}, "b/c", "b"},
		{[]string{"a/b/c", "a/b/c/d", "x", "x/y"}, "a/b/c/d", "a/b/c"},
	} {
		if first, than := path.Clash(c.list...); first != c.first || than != c.than {
			t.Errorf("Clash of %q: %q, %q", c.list, first, than)
		}
	}
	r := rand.New(rand.NewSource(52))
	found := 0
	for range 20000 {
		list := make([]string, r.Intn(7))
		for i := range list {
			list[i] = anyPath(r)
		}
		x, y := path.Clash(list...)
		if first, than := clashOf(list); x != first || y != than {
			t.Errorf("Clash of %q: %q, %q, not %q, %q", list, x, y, first, than)
		}
		if x != "" {
			found++
		}
	}
	if found < 2000 || found > 18000 {
		t.Errorf("%d of 20000 lists clash", found)
	}
}

// commonOf: the same from the words: the longest of all beginnings under which all lie.
func commonOf(list []string) string {
	best := ""
	for _, p := range list {
		names := strings.Split(p, "/")
		for n := range names {
			folder := strings.Join(names[:n], "/")
			all := !slices.ContainsFunc(list, func(q string) bool { return !strings.HasPrefix(q, folder+"/") })
			if all && len(folder) > len(best) {
				best = folder
			}
		}
	}
	return best
}

func TestCommon(t *testing.T) {
	for _, c := range []struct {
		list []string
		want string
	}{
		{nil, ""},
		{[]string{"a"}, ""},
		{[]string{"a/b"}, "a"},
		{[]string{"a/b/c"}, "a/b"},
		{[]string{"a/b/c", "a/b/c"}, "a/b"},
		{[]string{"a/b/c", "a/b/d"}, "a/b"},
		{[]string{"a/b/c", "a/bc/d"}, "a"},
		{[]string{"a/bc/c", "a/b/d"}, "a"},
		{[]string{"a/b", "a/b/c"}, "a"},
		{[]string{"a/b/c", "a/b"}, "a"},
		{[]string{"a", "a/b"}, ""},
		{[]string{"a/x", "b/x"}, ""},
		{[]string{"ab/x", "a/x"}, ""},
		{[]string{"a/b/c/d", "a/b/x", "a/b/c/e"}, "a/b"},
		{[]string{"a/b/c/d", "a/b/x", "c"}, ""},
	} {
		if got := path.Common(c.list...); got != c.want {
			t.Errorf("Common of %q: %q", c.list, got)
		}
	}
	r := rand.New(rand.NewSource(53))
	for range 20000 {
		list := make([]string, r.Intn(4))
		for i := range list {
			list[i] = anyPath(r)
		}
		if got, want := path.Common(list...), commonOf(list); got != want {
			t.Errorf("Common of %q: %q, not %q", list, got, want)
		}
	}
}

// P2: lists are left as they are, their spare room too; what is answered is new.

func TestListsAreLeft(t *testing.T) {
	room := []string{"b/c", "b", "a/x", "a", "a", "0"}
	before := slices.Clone(room)
	path.Clash(room[:4]...)
	path.Common(room[:4]...)
	path.Join(room[:4]...)
	if !slices.Equal(room, before) {
		t.Errorf("a list was changed: %q", room)
	}
	first, second := path.Split("a/b/c"), path.Split("a/b/c")
	first = append(first[:1], "x", "y", "z")
	if !slices.Equal(second, []string{"a", "b", "c"}) || !slices.Equal(path.Split("a/b/c"), second) || first[1] != "x" {
		t.Error("two answers of Split share memory")
	}
}

// P1

func TestAnyTextEnds(t *testing.T) {
	r := rand.New(rand.NewSource(54))
	for range 20000 {
		list := []string{anyText(r, 12), anyText(r, 12), anyText(r, 12)}
		path.Clash(list...)
		path.Common(list...)
		if e := path.Check(list[0]); e != api.OK && e != api.ErrPath && e != api.ErrLong {
			t.Errorf("Check of %q: %v", list[0], e)
		}
		if path.Compare(list[0], list[1]) != -path.Compare(list[1], list[0]) || path.Compare(list[0], list[0]) != 0 {
			t.Errorf("Compare of %q and %q", list[0], list[1])
		}
		if p := path.Parent(list[0]); p != "" && !path.Under(list[0], p) {
			t.Errorf("Parent of %q: %q", list[0], p)
		}
	}
}

func TestLongTextsEnd(t *testing.T) {
	for _, s := range []string{strings.Repeat("/", 1<<20), strings.Repeat("a/", 1<<20), strings.Repeat("\xff", 1<<20)} {
		if path.Check(s) != api.ErrLong || path.Name(s) || path.Compare(s, s+"a") != -1 || path.Join(path.Split(s)...) != s || !path.Under(s+"/a", s) {
			t.Errorf("a text of %d bytes that begins with %q", len(s), s[:2])
		}
		path.Clash(s, s+"a", s, "", "/")
		path.Common(s, s+"a", s, "a", "/")
		path.Common(s, s+"a", s)
	}
}
