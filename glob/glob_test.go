package glob_test

import (
	"math/rand"
	"slices"
	"strings"
	"testing"

	"towline/api"
	"towline/glob"
	"towline/path"
)

// parsed: the pattern of a text that is one.
func parsed(t *testing.T, s string) *glob.Pattern {
	t.Helper()
	p, e := glob.Parse(s)
	if p == nil || e != api.OK {
		t.Fatalf("Parse of %q: %v, %v", s, p, e)
	}
	return p
}

func notParsed(t *testing.T, s string, want api.Errno) {
	t.Helper()
	if p, e := glob.Parse(s); p != nil || e != want {
		t.Errorf("Parse of %q: %v, %v, not %v", s, p, e, want)
	}
}

// means: does this pattern mean all of the first texts, and none of the others?
func means(t *testing.T, pattern string, yes, no []string) {
	t.Helper()
	p := parsed(t, pattern)
	for _, s := range yes {
		if !p.Match(s) {
			t.Errorf("%q doesn't mean %q", pattern, s)
		}
	}
	for _, s := range no {
		if p.Match(s) {
			t.Errorf("%q means %q", pattern, s)
		}
	}
}

func list(s ...string) []string { return s }

// texts: all texts of at most n of these signs.
func texts(signs string, n int) []string {
	all := []string{""}
	level := all
	for range n {
		var next []string
		for _, s := range level {
			for i := range len(signs) {
				next = append(next, s+signs[i:i+1])
			}
		}
		all = append(all, next...)
		level = next
	}
	return all
}

// What follows, up to matches, is the same as Parse and Match, from the words: a piece is first cut into bytes as they are written, then into signs; all ways to mean a text are tried.

type written struct {
	c      byte
	behind bool // a \
}

func (w written) is(c byte) bool { return w == written{c, false} }

func bytesOf(piece string) ([]written, bool) {
	var l []written
	for i := 0; i < len(piece); i++ {
		behind := piece[i] == '\\'
		if behind {
			i++
		}
		if i == len(piece) {
			return nil, false
		}
		l = append(l, written{piece[i], behind})
	}
	return l, true
}

// meant is nil (any bytes), or the bytes of which one is meant.
type meant []bool

func some(not bool, l ...[2]byte) meant {
	m := make(meant, 256)
	for c := range m {
		in := slices.ContainsFunc(l, func(r [2]byte) bool { return int(r[0]) <= c && c <= int(r[1]) })
		m[c] = in != not
	}
	return m
}

// setOf: what a set means, and how many of the bytes as written it has, with its ].
func setOf(l []written) (meant, int) {
	i := 0
	not := len(l) > 0 && l[0].is('!')
	if not {
		i = 1
	}
	var spans [][2]byte
	for ; i < len(l); i++ {
		if l[i].is(']') && len(spans) > 0 {
			return some(not, spans...), i + 1
		}
		span := [2]byte{l[i].c, l[i].c}
		if i+2 < len(l) && l[i+1].is('-') && !l[i+2].is(']') {
			span[1] = l[i+2].c
			i += 2
		}
		if span[1] < span[0] {
			return nil, 0
		}
		spans = append(spans, span)
	}
	return nil, 0
}

func signsOf(piece string) ([]meant, bool) {
	l, ok := bytesOf(piece)
	if !ok || len(l) == 0 {
		return nil, false
	}
	var signs []meant
	for len(l) > 0 {
		x, n := some(false, [2]byte{l[0].c, l[0].c}), 1
		switch {
		case l[0].is('*'):
			x = nil
		case l[0].is('?'):
			x = some(true)
		case l[0].is('['):
			x, n = setOf(l[1:])
			if n == 0 {
				return nil, false
			}
			n++
		}
		signs = append(signs, x)
		l = l[n:]
	}
	return signs, true
}

func signsMean(signs []meant, name string) bool {
	if len(signs) == 0 {
		return name == ""
	}
	if signs[0] == nil {
		return signsMean(signs[1:], name) || name != "" && signsMean(signs, name[1:])
	}
	return name != "" && signs[0][name[0]] && signsMean(signs[1:], name[1:])
}

// oracle is the pieces of a pattern, and of each its signs (none of a piece **).
type oracle [][]meant

func oracleOf(pattern string) (oracle, bool) {
	var o oracle
	for _, piece := range strings.Split(pattern, "/") {
		signs, ok := signsOf(piece)
		if !ok {
			return nil, false
		}
		if piece == "**" {
			signs = nil
		}
		o = append(o, signs)
	}
	return o, true
}

func (o oracle) matches(names []string) bool {
	if len(o) == 0 {
		return len(names) == 0
	}
	if o[0] == nil {
		return o[1:].matches(names) || len(names) > 0 && o.matches(names[1:])
	}
	return len(names) > 0 && signsMean(o[0], names[0]) && o[1:].matches(names[1:])
}

// P6.1

func TestParseOfTheLongest(t *testing.T) {
	most := strings.Repeat("a", 255)
	means(t, most, list(most), list(most[1:], most+"a"))
	means(t, strings.Repeat("a/", 127)+"a", list(strings.Repeat("a/", 127)+"a"), list("a", strings.Repeat("a/", 126)+"a", strings.Repeat("a/", 128)+"a"))
	for _, s := range []string{most + "a", most + "/", strings.Repeat("/", 256), strings.Repeat("[", 256), strings.Repeat("*", 1<<20), strings.Repeat("\\", 257)} {
		notParsed(t, s, api.ErrLong)
	}
	for _, s := range []string{strings.Repeat("/", 255), strings.Repeat("[", 255), strings.Repeat("\\", 255)} {
		notParsed(t, s, api.ErrPattern)
	}
}

func TestParseOfNoPattern(t *testing.T) {
	for _, s := range []string{
		"", "/", "//", "/a", "a/", "a//b", "**/", "/**", "**//**",
		"\\", "a\\", "a\\/b", "\\\\\\", "[a]\\", "\\/", "**\\",
		"[", "a[", "[]", "[!", "[!]", "[a", "[!a", "[a/]", "[/]", "[a/b]", "a/[", "[/a", "[\\]", "[a\\]", "[\\", "[a\\", "[]a", "[[a", "[a-", "[a-b", "[-", "[]-", "[]]/[",
		"[b-a]", "[z-ab]", "[\\b-\\a]", "[!b-a]", "[ab-a]", "[a--]", "[a-\\]]", "[]-A]", "[\xff-\x00]", "a/[b-a]/c",
	} {
		notParsed(t, s, api.ErrPattern)
	}
}

// P6.2

func TestSigns(t *testing.T) {
	means(t, "abc", list("abc"), list("", "ab", "abcd", "abx", "Abc", "/abc", "abc/", "abc/abc", "xabc"))
	means(t, "*", list("a", "abc", ".", "..", ".a", " ", "\x00", "é\xff"), list("", "a/b", "/", "/a", "a/"))
	means(t, "*a", list("a", "ba", "aa", "aba", "aab a"), list("ab", "b", "a/a", "aab"))
	means(t, "a*", list("a", "ab", "aa"), list("ba", "a/", "a/b"))
	means(t, "a*b*c", list("abc", "abbc", "axxbyyc", "abcbc", "abcc"), list("abcd", "ac", "acb", "ab/c", "acbb"))
	means(t, "*ab*ab*", list("abab", "aabaab", "xabxabx", "ababab"), list("ab", "aba", "abba", "abxa"))
	means(t, "***", list("a", "abc"), list("", "a/b"))
	means(t, "a**", list("a", "abc"), list("a/b", "ba"))
	means(t, "?", list("a", "*", "?", "\x00", "\xff", "."), list("", "ab", "é", "/"))
	means(t, "a?c", list("abc", "a?c", "a\x80c"), list("ac", "abbc", "a/c", "aéc"))
	means(t, "??", list("ab", "é"), list("a", "abc", "a/", "/b", "/"))
	means(t, "?*", list("a", "ab"), list("", "/", "a/"))
	means(t, "*?", list("a", "ab"), list("", "/", "a/"))
	means(t, "\\*", list("*"), list("a", "\\*", "\\", "**"))
	means(t, "\\?\\[\\]\\\\\\a", list("?[]\\a"), list("a[]\\a", "\\?\\[\\]\\\\\\a"))
	means(t, "\\**", list("*", "*a"), list("a", "a*", "*/a"))
	means(t, "\\*\\*", list("**"), list("a", "a/b", ""))
	means(t, "]", list("]"), list("a"))
	means(t, "a]", list("a]"), list("a"))
	means(t, "!a-b#^", list("!a-b#^"), list("a-b", "b"))
	means(t, "{a,b}", list("{a,b}"), list("a", "b"))
}

func TestEachByteAsASign(t *testing.T) {
	for c := range 256 {
		if c == '/' {
			continue
		}
		x, y := string([]byte{byte(c)}), string([]byte{byte(c) ^ 1})
		if y == "/" {
			y = "x"
		}
		if !strings.Contains("*?[\\", x) {
			means(t, x, list(x), list("", y, x+x))
		}
		means(t, "\\"+x, list(x), list("", y, "\\"+x))
		means(t, "?", list(x), list(x+y))
		means(t, "*", list(x, x+y), list(x+"/"+y))
		means(t, "[\\"+x+"]", list(x), list("", y, x+x))
		means(t, "[!\\"+x+"]", list(y), list("", x, y+y))
		means(t, "[0\\"+x+"]", list(x, "0"), nil)
	}
}

// P6.3

func TestSets(t *testing.T) {
	means(t, "[abc]", list("a", "b", "c"), list("", "d", "ab", "[abc]", "A"))
	means(t, "[a-c]x", list("ax", "bx", "cx"), list("dx", "`x", "x", "-x", "a", "a-cx"))
	means(t, "[!a-c]x", list("dx", "-x", "!x", "]x", "\xffx"), list("ax", "bx", "cx", "x", "!a-cx"))
	means(t, "[a-a]", list("a"), list("-", "b"))
	means(t, "[a-cx-z-]", list("a", "b", "y", "z", "-"), list("d", "w", ""))
	means(t, "[]]", list("]"), list("a", "", "]]", "[]]"))
	means(t, "[]a]", list("]", "a"), list("b", "a]", "]a]"))
	means(t, "[!]]", list("a", "[", "!"), list("]", "", "!]"))
	means(t, "[!]a]", list("b"), list("]", "a"))
	means(t, "[a]]", list("a]"), list("a", "]", "]]"))
	means(t, "[\\]]", list("]"), list("\\", "a", "\\]"))
	means(t, "[a\\]b]", list("a", "]", "b"), list("\\", "ab]"))
	means(t, "[]-a]", list("]", "^", "_", "`", "a"), list("-", "b", "\\"))
	means(t, "[]-]", list("]", "-"), list("a"))
	means(t, "[\\]-\\a]", list("]", "^", "a"), list("-", "b", "\\"))
	means(t, "[A-\\]]", list("A", "Z", "[", "\\", "]"), list("-", "^", "@"))
	means(t, "[-]", list("-"), list("a", "[-]", "]"))
	means(t, "[--]", list("-"), list("]", "."))
	means(t, "[---]", list("-"), list("]", ".", ","))
	means(t, "[+--]", list("+", ",", "-"), list("*", ".", "]"))
	means(t, "[--0]", list("-", ".", "0"), list(",", "1"))
	means(t, "[-a]", list("-", "a"), list("b", "`"))
	means(t, "[a-]", list("a", "-"), list("b", "]", "a-"))
	means(t, "[a-]x]", list("ax]", "-x]"), list("a", "bx]", "x"))
	means(t, "[a-c-e]", list("a", "b", "c", "-", "e"), list("d"))
	means(t, "[a\\-c]", list("a", "-", "c"), list("b", "\\"))
	means(t, "[a-\\c]", list("a", "b", "c"), list("-", "\\", "d"))
	means(t, "[\\--0]", list("-", ".", "0"), list("\\", "1"))
	means(t, "[!-]", list("a", "!"), list("-"))
	means(t, "[!!]", list("a", "]"), list("!"))
	means(t, "[\\!a]", list("!", "a"), list("b", "\\"))
	means(t, "[a!]", list("!", "a"), list("b"))
	means(t, "[!a!]", list("b"), list("!", "a"))
	means(t, "[!--0]", list(",", "1", "!"), list("-", ".", "0"))
	means(t, "[*?[]", list("*", "?", "["), list("a", "", "]"))
	means(t, "[**]", list("*"), list("a", "a/b", "**"))
	means(t, "[^a]", list("^", "a"), list("b"))
	means(t, "[\x00-\xff]", list("a", "\x00", "\xff", "\x80"), list("", "ab", "/"))
	means(t, "[\x80-\xff]", list("\xff", "\x80"), list("a", "\x7f", "é"))
	means(t, "[!\x00-\xff]", nil, list("a", "", "\x00", "/"))
	means(t, "[a-b][!c][]]*", list("ax]", "bd]e"), list("ac]", "ax", "cx]"))
	means(t, "[é]", list("\xc3", "\xa9"), list("é"))
	means(t, "[[:a]:]", list("[:]", "a:]", "::]"), list("a", ":", "[", "]"))
}

// P6.4

func TestPieces(t *testing.T) {
	means(t, "**", list("", "a", "a/b", "/", "//", "a//b", "/a"), nil)
	means(t, "**/**", list("", "a", "a/b", "/"), nil)
	means(t, "a/**", list("a", "a/", "a/b", "a/b/c", "a//"), list("", "b", "ab", "b/a", "/a"))
	means(t, "**/a", list("a", "b/a", "b/c/a", "/a", "a/a", "//a"), list("", "b", "a/b", "ba", "a/"))
	means(t, "a/**/b", list("a/b", "a/x/b", "a/x/y/b", "a//b", "a/b/b", "a/a/b"), list("ab", "a", "b", "a/b/c", "x/a/b", "a/xb", ""))
	means(t, "a/**/b/**/c", list("a/b/c", "a/x/b/y/c", "a/b/b/c/c", "a/c/b/c"), list("a/c", "a/c/b", "a/b", "b/c", "a/x/c"))
	means(t, "**/a/**", list("a", "x/a", "a/x", "x/a/y"), list("", "x", "xa", "ax/y"))
	means(t, "**/a/b", list("a/b", "a/a/b", "a/b/a/b", "x/a/b"), list("a/b/a", "a", "b", "a/x/b"))
	means(t, "*/*", list("a/b", "/", "/a", "a/"), list("", "a", "a/b/c", "//"))
	means(t, "*/**", list("a", "a/b", "/", "a/b/c"), list(""))
	means(t, "**/*", list("a", "a/b", "/", "a/b/c"), list(""))
	means(t, "*/**/*", list("a/b", "/", "a/b/c"), list("", "a"))
	means(t, "?/?", list("a/b"), list("/", "a/", "/b", "a//b", "ab/c", "a"))
	means(t, "[a]/[!a]", list("a/b"), list("a/a", "a/", "ab"))
	means(t, "**/a*.[ch]", list("x/y/abc.c", "a.h", "x/a.c"), list("a/b.c", "a.cc", "abc.c/x", "a.d"))
	means(t, "*", list("a"), list(""))
}

func TestMatchOfAllShortTexts(t *testing.T) {
	names := texts("ab-]/", 3)
	few, valid := 0, 0
	for _, s := range texts("*?[]!-\\ab/", 4) {
		o, ok := oracleOf(s)
		if !ok {
			few++
			notParsed(t, s, api.ErrPattern)
			continue
		}
		valid++
		p := parsed(t, s)
		for _, name := range names {
			if p.Match(name) != o.matches(path.Split(name)) {
				t.Fatalf("%q and %q: %v", s, name, p.Match(name))
			}
		}
	}
	if few < 1000 || valid < 1000 {
		t.Errorf("%d of no pattern, %d patterns", few, valid)
	}
}

func TestParseOfAllShortSets(t *testing.T) {
	for _, inner := range texts("]!-\\ab", 6) {
		s := "[" + inner
		o, ok := oracleOf(s)
		if !ok {
			notParsed(t, s, api.ErrPattern)
			continue
		}
		p := parsed(t, s)
		for _, name := range []string{"", "a", "b", "]", "!", "-", "\\", "`", "a]", "b]", "-]", "]]", "x-]"} {
			if p.Match(name) != o.matches(path.Split(name)) {
				t.Fatalf("%q and %q: %v", s, name, p.Match(name))
			}
		}
	}
}

// anyPattern: a text that is mostly a pattern.
func anyPattern(r *rand.Rand) string {
	pieces := make([]string, 1+r.Intn(5))
	for i := range pieces {
		for range 1 + r.Intn(3) {
			pieces[i] += []string{"a", "b", "*", "?", "[ab]", "[!a]", "*a", "\\a"}[r.Intn(8)]
		}
		if r.Intn(3) == 0 {
			pieces[i] = "**"
		}
	}
	return strings.Join(pieces, "/")
}

// anyText: a text of few and short names.
func anyText(r *rand.Rand) string {
	names := make([]string, r.Intn(6))
	for i := range names {
		names[i] = []string{"a", "b", "ab", "", "aab", "ba"}[r.Intn(6)]
	}
	return strings.Join(names, "/")
}

func TestMatchOfManyPieces(t *testing.T) {
	r := rand.New(rand.NewSource(61))
	met := 0
	for range 100000 {
		s, name := anyPattern(r), anyText(r)
		o, ok := oracleOf(s)
		if !ok {
			t.Fatalf("%q is no pattern", s)
		}
		got := parsed(t, s).Match(name)
		if got != o.matches(path.Split(name)) {
			t.Fatalf("%q and %q: %v", s, name, got)
		}
		if got {
			met++
		}
	}
	if met < 5000 || met > 95000 {
		t.Errorf("%d of 100000 met", met)
	}
}

// P6.5

// rules: of lines that are right.
func rules(t *testing.T, lines ...string) *glob.Rules {
	t.Helper()
	r, e, line := glob.New(lines...)
	if r == nil || e != api.OK || line != 0 {
		t.Fatalf("New of %q: %v, %v, %d", lines, r, e, line)
	}
	return r
}

func skips(t *testing.T, lines, yes, no []string) {
	t.Helper()
	r := rules(t, lines...)
	for _, s := range yes {
		if !r.Skips(s) {
			t.Errorf("%q let %q be", lines, s)
		}
	}
	for _, s := range no {
		if r.Skips(s) {
			t.Errorf("%q pass over %q", lines, s)
		}
	}
}

func TestNewOfWrongLines(t *testing.T) {
	long := strings.Repeat("a", 256)
	for _, c := range []struct {
		lines []string
		e     api.Errno
		line  int
	}{
		{list("["), api.ErrPattern, 0},
		{list("a", "", "["), api.ErrPattern, 2},
		{list("#[", "", "!a", "a//b", "["), api.ErrPattern, 3},
		{list("!"), api.ErrPattern, 0},
		{list("a", "!["), api.ErrPattern, 1},
		{list("!/"), api.ErrPattern, 0},
		{list("a", long), api.ErrLong, 1},
		{list("!" + long), api.ErrLong, 0},
		{list("a", "[", long), api.ErrPattern, 1},
		{list("a", long, "["), api.ErrLong, 1},
		{list("\\"), api.ErrPattern, 0},
		{list("/#"), api.ErrPattern, 0},
	} {
		if r, e, line := glob.New(c.lines...); r != nil || e != c.e || line != c.line {
			t.Errorf("New of %q: %v, %v, %d", c.lines, r, e, line)
		}
	}
}

func TestLines(t *testing.T) {
	skips(t, nil, nil, list("", "a", "a/b", "/"))
	skips(t, list("", "# all", "#", "#["), nil, list("", "a", "# all", "#"))
	skips(t, list("#"+strings.Repeat("[", 300)), nil, list("a"))
	skips(t, list("!"+strings.Repeat("a", 255)), nil, list("a"))
	skips(t, list("\\#a", "\\!b"), list("#a", "!b"), list("a", "b", "\\#a"))
	skips(t, list("*", "!#a", "!!b"), list("a", "b", "!#a"), list("#a", "!b"))
	skips(t, list(" #a", " "), list(" #a", " "), list("#a"))
	skips(t, list("a#", "a!"), list("a#", "a!"), list("a"))
	skips(t, list("a\n", "\n"), list("a\n", "\n"), list("a", ""))
}

func TestSkips(t *testing.T) {
	skips(t, list("*.o", "!keep.o"), list("a.o", "a.o/b", "a.o/keep.o", "keep.o.o"), list("keep.o", "keep.o/a", "a", "x/a.o", ""))
	skips(t, list("!keep.o", "*.o"), list("a.o", "keep.o"), list("keep"))
	skips(t, list("a", "!a", "a"), list("a", "a/b"), list("b"))
	skips(t, list("a", "!a", "a", "!*"), nil, list("a", "a/b", "b"))
	skips(t, list("build"), list("build", "build/x", "build/x/y", "build/"), list("x/build", "builds", "buil", "/build"))
	skips(t, list("build", "!build/keep"), list("build", "build/x", "build/keep"), nil)
	skips(t, list("build/*", "!build/keep"), list("build/x", "build/x/keep"), list("build", "build/keep", "build/keep/x"))
	skips(t, list("**", "!a"), list("", "b", "a/b", "b/a"), list("a"))
	skips(t, list("**", "!**/a", "!**/b"), list("", "x", "a/x", "x/a/y"), list("a", "b", "a/b", "b/a/a"))
	skips(t, list("**/x"), list("x", "a/x", "a/x/b", "/x", "//x/"), list("", "a", "ax", "/", "a/xb"))
	skips(t, list("a/b"), list("a/b", "a/b/c", "a/b/"), list("a", "a/", "b", "a/bc", "x/a/b"))
}

// A beginning that is the empty text has no names, as s itself if it is empty: only any number of names means it.
func TestSkipsOfEmptyNames(t *testing.T) {
	skips(t, list("*"), list("a", "a/", "a//b"), list("", "/", "/a", "//a"))
	skips(t, list("*/*"), list("/", "/a", "//", "//a", "a/", "a/b"), list("", "a"))
	skips(t, list("*/*/*"), list("//", "//a", "a/b/c"), list("", "/", "/a", "a/b"))
	skips(t, list("**"), list("", "/", "/a", "a"), nil)
	skips(t, list("**", "!*/**"), list("", "/", "/a", "//"), list("a", "a/", "a/b"))
	skips(t, list("!**", "*"), list("a", "a/b"), list("", "/", "/a"))
	skips(t, list("**", "!**"), nil, list("", "/", "/a", "a"))
}

// skipped: the same from the words: each beginning from its first name on, the last rule first.
func skipped(t *testing.T, lines []string, s string) bool {
	t.Helper()
	for i := range len(s) + 1 {
		if i < len(s) && s[i] != '/' {
			continue
		}
		for _, line := range slices.Backward(lines) {
			if line == "" || line[0] == '#' {
				continue
			}
			if parsed(t, strings.TrimPrefix(line, "!")).Match(s[:i]) {
				if line[0] != '!' {
					return true
				}
				break
			}
		}
	}
	return false
}

func TestSkipsOfManyRules(t *testing.T) {
	r := rand.New(rand.NewSource(62))
	met := 0
	for range 20000 {
		lines := make([]string, r.Intn(5))
		for i := range lines {
			lines[i] = []string{"", "", "!", "!", "#"}[r.Intn(5)] + anyPattern(r)
		}
		set := rules(t, lines...)
		for range 3 {
			s := anyText(r)
			got := set.Skips(s)
			if got != skipped(t, lines, s) {
				t.Fatalf("%q and %q: %v", lines, s, got)
			}
			if got {
				met++
			}
		}
	}
	if met < 3000 || met > 57000 {
		t.Errorf("%d of 60000 met", met)
	}
}

// P2: lines are neither changed nor kept; a call leaves patterns and rules as they were.

func TestLinesAreLeft(t *testing.T) {
	room := list("a", "!b", "c")
	before := slices.Clone(room)
	r := rules(t, room[:2]...)
	if !slices.Equal(room, before) {
		t.Errorf("the lines were changed: %q", room)
	}
	room[0], room[1] = "x", "b"
	if !r.Skips("a") || r.Skips("x") || r.Skips("b") {
		t.Error("the lines are kept")
	}
}

func TestCallsLeaveNothing(t *testing.T) {
	p, r := parsed(t, "a/**/b"), rules(t, "**/b", "!x/b")
	for range 3 {
		if !p.Match("a/x/b") || p.Match("a/x") || p.Match("") || !p.Match("a/b") {
			t.Error("Match has two answers")
		}
		if !r.Skips("a/b/c") || r.Skips("a") || r.Skips("x/b") || r.Skips("") {
			t.Error("Skips has two answers")
		}
	}
	if parsed(t, "a/**/b") == p || rules(t, "**/b", "!x/b") == r {
		t.Error("two answers are one")
	}
}

// P1

func TestAnyTextEnds(t *testing.T) {
	r := rand.New(rand.NewSource(63))
	for range 50000 {
		b := make([]byte, r.Intn(12))
		for i := range b {
			b[i] = "*?[]!-\\/#a\x00\xff"[r.Intn(12)]
		}
		s := string(b)
		o, ok := oracleOf(s)
		p, e := glob.Parse(s)
		if ok != (e == api.OK) || ok != (p != nil) || !ok && e != api.ErrPattern {
			t.Fatalf("Parse of %q: %v, %v", s, p, e)
		}
		if ok && p.Match("a") != o.matches(list("a")) {
			t.Fatalf("%q and a", s)
		}
		if rules, e, line := glob.New("a", s); (rules == nil) != (e != api.OK) || e == api.OK && line != 0 || e != api.OK && line != 1 {
			t.Fatalf("New of %q: %v, %d", s, e, line)
		}
	}
}

func TestLongTextsEnd(t *testing.T) {
	stars := strings.Repeat("*a", 127)
	deep := strings.Repeat("**/a/", 50) + "b"
	long := strings.Repeat("a", 1<<18)
	names := strings.Repeat("a/", 1<<18)
	if parsed(t, stars).Match(long+"b") || !parsed(t, stars).Match(long) || parsed(t, stars+"b").Match(long) {
		t.Error("a long name")
	}
	if parsed(t, deep).Match(names) || !parsed(t, deep).Match(names+"b") {
		t.Error("many names")
	}
	r := rules(t, deep, "!**/c", "*/b")
	if r.Skips(names) || !r.Skips(names+"b") || r.Skips(strings.Repeat("/", 1<<18)) {
		t.Error("many beginnings")
	}
}
