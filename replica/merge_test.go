package replica_test

import (
	"bytes"
	"math/rand"
	"reflect"
	"slices"
	"strconv"
	"strings"
	"testing"

	"towline/api"
	"towline/join"
	"towline/object"
	"towline/replica"
	"towline/sha"
	"towline/snap"
	"towline/tree"
)

// P22.4, P22.5: what the words say of a Merge is reckoned in a box, way by way and as slowly as it is told.

// pasts are those of all snapshots that were asked for: what is in them stands in their ids.
var pasts = map[api.ID]map[api.ID]bool{}

// past: all from which a snapshot comes.
func (b box) past(t *testing.T, id api.ID) map[api.ID]bool {
	t.Helper()
	if out, found := pasts[id]; found {
		return out
	}
	out := map[api.ID]bool{id: true}
	x, e := snap.Read(b, id)
	does(t, "Read", e)
	for _, parent := range x.Parents {
		for id := range b.past(t, parent) {
			out[id] = true
		}
	}
	pasts[id] = out
	return out
}

// tips: of all that one of some and the other both come from those from which no other of these comes, by their digits.
func (b box) tips(t *testing.T, some []api.ID, other api.ID) []api.ID {
	t.Helper()
	var both, tips []api.ID
	for id := range b.past(t, other) {
		if slices.ContainsFunc(some, func(one api.ID) bool { return b.past(t, one)[id] }) {
			both = append(both, id)
		}
	}
	for _, id := range both {
		behind := func(other api.ID) bool { return other != id && b.past(t, other)[id] }
		if !slices.ContainsFunc(both, behind) {
			tips = append(tips, id)
		}
	}
	slices.SortFunc(tips, func(a, b api.ID) int { return strings.Compare(sha.Hex(a), sha.Hex(b)) })
	return tips
}

// files: those of a snapshot.
func (b box) files(t *testing.T, id api.ID) []tree.File {
	t.Helper()
	x, e := snap.Read(b, id)
	does(t, "Read", e)
	l, e := tree.Read(b, x.Tree)
	does(t, "Read of the tree", e)
	return l
}

// base: the files of a base, the n-th within one another; the one numbered most has none.
func (b box) base(t *testing.T, some []api.ID, other api.ID, n, most int) []tree.File {
	t.Helper()
	if n == most {
		return nil
	}
	var l []tree.File
	tips := b.tips(t, some, other)
	for i, tip := range tips {
		if i == 0 {
			l = b.files(t, tip)
			continue
		}
		out, e := join.Merge([3][]tree.File{b.base(t, tips[:i], tip, n+1, most), l, b.files(t, tip)}, b)
		does(t, "Merge of a base", e)
		l = nil
		for _, o := range out {
			id := o.ID
			switch {
			case o.Kind == join.Blocked:
				continue
			case o.Kind == join.Woven:
				id, _ = snap.Blob(b, o.Text)
			case o.Kind == join.Clash && o.Has[1]:
				id = o.IDs[1]
			case o.Kind == join.Clash:
				id = o.IDs[2]
			}
			l = append(l, tree.File{Path: o.Path, ID: id, Stamp: o.Stamp})
		}
	}
	return l
}

// outcomes: what becomes of the files of two snapshots, with bases of at most so many within one another.
func (b box) outcomes(t *testing.T, ours, theirs api.ID, most int) []join.Outcome {
	t.Helper()
	base := b.base(t, []api.ID{ours}, theirs, 0, most)
	out, e := join.Merge([3][]tree.File{base, b.files(t, ours), b.files(t, theirs)}, b)
	does(t, "Merge", e)
	return out
}

// entered: the snapshot of outcomes that are clean.
func (b box) entered(t *testing.T, out []join.Outcome, x object.Commit) api.ID {
	t.Helper()
	var l []tree.File
	for _, o := range out {
		id := o.ID
		if o.Kind == join.Woven {
			id, _ = snap.Blob(b, o.Text)
		}
		l = append(l, tree.File{Path: o.Path, ID: id, Stamp: o.Stamp})
	}
	root, e := snap.Trees(b, l)
	does(t, "Trees", e)
	x.Tree = root
	id, e := snap.Commit(b, x)
	does(t, "Commit", e)
	return id
}

// clone: another box with the same records.
func (b box) clone() box {
	out := box{}
	for id, data := range b {
		out[id] = data
	}
	return out
}

// at: a copy that knows all records of a box, with a snapshot of them as its head.
func at(t *testing.T, b box, head api.ID, others ...api.ID) *replica.Replica {
	t.Helper()
	c, _ := begun(t)
	if head != zero {
		does(t, "Accept", c.Accept("you", head, b.all()))
		turned(t, c, head)
	}
	for _, id := range others {
		does(t, "Accept", c.Accept("o", id, b.all()))
	}
	return c
}

// merges: a Merge answers what is reckoned, and does it.
func merges(t *testing.T, b box, ours, theirs api.ID) string {
	t.Helper()
	x := object.Commit{Tree: api.ID{7}, Parents: []api.ID{{8}}, Stamp: 3, Author: "me", Note: "merged"}
	c := at(t, b, ours, theirs)
	n := len(c.Records())
	was := known(t, c)
	id, out, e := c.Merge(theirs, x)
	if b.past(t, ours)[theirs] {
		if e != api.ErrSame || id != zero || len(out) > 0 || known(t, c) != was {
			t.Errorf("Merge of what is there: %v", e)
		}
		return "same"
	}
	if b.past(t, theirs)[ours] {
		if e != api.OK || id != theirs || len(out) > 0 || c.Head() != theirs || len(c.Records()) != n {
			t.Errorf("Merge of what comes from the head: %v", e)
		}
		l, _ := snap.Load(b, tree0(b, theirs))
		has(t, c, theirs, show(l))
		return "ahead"
	}
	own := b.clone()
	want := own.outcomes(t, ours, theirs, replica.MaxBases)
	if !sameOutcomes(out, want) {
		t.Fatalf("Merge: %v %v, not %v", e, out, want)
	}
	if !join.Clean(want) {
		if e != api.ErrClash || id != zero || known(t, c) != was || len(c.Records()) != n {
			t.Errorf("Merge of what clashes: %v", e)
		}
		return "clash"
	}
	x.Parents = []api.ID{ours, theirs}
	if e != api.OK || id != own.entered(t, want, x) || c.Head() != id {
		t.Fatalf("Merge: %v, another snapshot", e)
	}
	l, e := snap.Load(own, tree0(own, id))
	does(t, "Load", e)
	has(t, c, id, show(l))
	whole(t, c)
	fresh := b.clone()
	fresh.entered(t, want, x)
	if len(c.Records()) != n+len(fresh)-len(b) {
		t.Errorf("%d records were put, not %d", len(c.Records())-n, len(fresh)-len(b))
	}
	return "clean"
}

// sameOutcomes: are they alike, whatever an empty text is?
func sameOutcomes(a, b []join.Outcome) bool {
	return slices.EqualFunc(a, b, func(o, p join.Outcome) bool {
		same := bytes.Equal(o.Text, p.Text)
		o.Text, p.Text = nil, nil
		return same && reflect.DeepEqual(o, p)
	})
}

// tree0: the tree of a snapshot.
func tree0(b box, id api.ID) api.ID {
	x, _ := snap.Read(b, id)
	return x.Tree
}

func TestMergeOfTwoSides(t *testing.T) {
	b := box{}
	root := b.snapshot(t, "p@1=a|b|c| q=1 r=2", "root")
	ours := b.snapshot(t, "p@2=x|b|c| q=1 n=3", "ours", root)
	theirs := b.snapshot(t, "p@3=a|b|y| q=5 r=2 m@9=4", "theirs", root)
	c := at(t, b, ours, theirs)
	id, out, e := c.Merge(theirs, object.Commit{Author: "me", Stamp: 4})
	does(t, "Merge", e)
	has(t, c, id, "m@9=4 n=3 p@3=x|b|y| q=5")
	if len(out) != 4 || out[2].Kind != join.Woven || out[3].Kind != join.Keep {
		t.Errorf("Merge: %v", out)
	}
	x, _ := object.GetCommit(record(t, c, id))
	if x.Author != "me" || x.Stamp != 4 || x.Note != "" || len(x.Parents) != 2 || !slices.Contains(x.Parents, ours) || !slices.Contains(x.Parents, theirs) {
		t.Errorf("the snapshot is %v", x)
	}
	for _, pair := range [][2]api.ID{{ours, theirs}, {theirs, ours}, {root, ours}, {ours, root}, {ours, ours}} {
		merges(t, b, pair[0], pair[1])
	}
}

func TestMergeWithoutAHead(t *testing.T) {
	b := box{}
	id := b.snapshot(t, "a=x", "n")
	c, fs := begun(t)
	refuses(t, c, fs, "Merge of what isn't there", api.ErrMissing, merging(t, c, id, object.Commit{}))
	refuses(t, c, fs, "Merge of none", api.ErrMissing, merging(t, c, zero, object.Commit{}))
	does(t, "Accept", c.Accept("you", id, b.all()))
	lay(t, c, "b=y")
	refuses(t, c, fs, "Merge", api.ErrState, merging(t, c, id, object.Commit{}))
	lay(t, c, "")
	got, out, e := c.Merge(id, object.Commit{Note: strings.Repeat("a", 2000)})
	if got != id || len(out) > 0 || e != api.OK {
		t.Errorf("Merge: %v", e)
	}
	has(t, c, id, "a=x")
}

func TestMergeOfWhatHasNothingInCommon(t *testing.T) {
	b := box{}
	one := b.snapshot(t, "a=x b=same", "one")
	two := b.snapshot(t, "c=z b=same", "two")
	three := b.snapshot(t, "a=y", "three")
	if merges(t, b, one, two) != "clean" || merges(t, b, one, three) != "clash" {
		t.Error("another kind")
	}
}

func TestMergeOfAllKindsOfOutcomes(t *testing.T) {
	b := box{}
	root := b.snapshot(t, "a=1 b=1 c=1 d/e=1 f=1|2|3|", "root")
	for _, ours := range []string{"", "a=1 b=1 c=1 d/e=1 f=1|2|3|", "a=2 b=1 d/e=1 f=0|2|3|", "a=1 b/c=1 d=2 f=1|2|4|", "g=3 a@5=1 f@6=1|2|3|"} {
		for _, theirs := range []string{"", "a=1 b=1 c=1 d/e=1 f=1|2|3|", "a=3 c=1 d/e/f=1 f=1|2|4|", "a=1 b=2 d/e=3 f=1|9|4|", "g=4 a@7=1 f@1=1|2|3|"} {
			merges(t, b, b.snapshot(t, ours, "ours", root), b.snapshot(t, theirs, "theirs", root))
		}
	}
}

func TestMergeOfWhatClashesChangesNothing(t *testing.T) {
	b := box{}
	root := b.snapshot(t, "a=1| b=1| c=1|", "root")
	ours := b.snapshot(t, "a=2| b=1|2| c=1|", "ours", root)
	theirs := b.snapshot(t, "a=3| b=0|1| c=1| d=4", "theirs", root)
	c, fs := begun(t)
	does(t, "Accept", c.Accept("o", theirs, b.all()))
	turned(t, c, ours)
	refuses(t, c, fs, "Merge", api.ErrClash, merging(t, c, theirs, object.Commit{Note: strings.Repeat("a", 2000)}))
	_, out, _ := c.Merge(theirs, object.Commit{})
	if len(out) != 4 || out[0].Kind != join.Clash || string(out[0].Text) != "<<<<<<< ours\n2\n||||||| base\n1\n=======\n3\n>>>>>>> theirs\n" {
		t.Errorf("Merge: %v", out)
	}
	// The clash is taken away by the same file on both sides.
	lay(t, c, "a=3| b=1|2| c=1|")
	head, e := c.Commit(object.Commit{})
	does(t, "Commit", e)
	id, _, e := c.Merge(theirs, object.Commit{})
	does(t, "Merge", e)
	has(t, c, id, "a=3| b=0|1|2| c=1| d=4")
	if comes, e := c.Comes(id, head); e != api.OK || !comes {
		t.Error("Comes")
	}
}

// P22.4: errors, in their order.

func TestMergeOfWhatCantBeRead(t *testing.T) {
	b := box{}
	root := b.snapshot(t, "a=1", "root")
	ours := b.snapshot(t, "a=2", "ours", root)
	top := b.snapshot(t, "a=1 b=1", "top", root)
	chunk := b.put(object.PutChunk([]byte("x")))
	junk := b.put([]byte("\xff"), api.OK)
	for id, want := range map[api.ID]api.Errno{
		zero:                              api.ErrMissing,
		{1}:                               api.ErrMissing,
		chunk:                             api.ErrForm,
		tree0(b, root):                    api.ErrForm,
		junk:                              api.ErrShort,
		b.commit(t, chunk, "", chunk):     api.ErrForm,
		b.commit(t, chunk, "", top, junk): api.ErrShort,
		b.commit(t, chunk, "", api.ID{1}): api.ErrMissing,
		b.commit(t, tree0(b, root), "", b.commit(t, tree0(b, root), "", junk)): api.ErrShort,
	} {
		c, fs := begun(t)
		does(t, "Accept", c.Accept("you", ours, b.all()))
		lay(t, c, "n=1")
		refuses(t, c, fs, "Merge without a head", want, merging(t, c, id, object.Commit{}))
		lay(t, c, "")
		turned(t, c, ours)
		lay(t, c, "n=1")
		refuses(t, c, fs, "Merge", want, merging(t, c, id, object.Commit{}))
		leave(t, fs, 0)
		fs.Stop(0)
		is(t, "Merge without power", merging(t, c, id, object.Commit{})(), want)
	}
	// Of the head's own past too, though the other comes from there.
	head := b.commit(t, tree0(b, root), "", junk, top)
	c, fs := begun(t)
	does(t, "Accept", c.Accept("you", head, b.all()))
	turned(t, c, head)
	for _, id := range []api.ID{ours, top, root, head} {
		refuses(t, c, fs, "Merge", api.ErrShort, merging(t, c, id, object.Commit{}))
	}
	refuses(t, c, fs, "Merge", api.ErrMissing, merging(t, c, zero, object.Commit{}))
}

func TestMergeHasTheErrorsInTheirOrder(t *testing.T) {
	b := box{}
	root := b.snapshot(t, "a=1", "root")
	ours := b.snapshot(t, "a=2", "ours", root)
	theirs := b.snapshot(t, "a=3", "theirs", root)
	behind := b.snapshot(t, "a=4", "behind", ours)
	long := object.Commit{Author: strings.Repeat("a", 65)}
	c, fs := begun(t)
	does(t, "Accept", c.Accept("you", theirs, b.all()))
	turned(t, c, ours)
	lay(t, c, "a=9")
	leave(t, fs, 0)
	refuses(t, c, fs, "Merge", api.ErrSame, merging(t, c, root, long))
	refuses(t, c, fs, "Merge", api.ErrSame, merging(t, c, ours, long))
	refuses(t, c, fs, "Merge", api.ErrState, merging(t, c, behind, long))
	refuses(t, c, fs, "Merge", api.ErrState, merging(t, c, theirs, long))
	leave(t, fs, 1000)
	lay(t, c, "a=2")
	leave(t, fs, 0)
	refuses(t, c, fs, "Merge", api.ErrFull, merging(t, c, behind, long))
	refuses(t, c, fs, "Merge", api.ErrFull, merging(t, c, theirs, long))
	leave(t, fs, 1<<16)
	refuses(t, c, fs, "Merge", api.ErrClash, merging(t, c, theirs, long))
	other := b.snapshot(t, "a=1 b=2", "other", root)
	does(t, "Accept", c.Accept("p/q", other, b.all()))
	refuses(t, c, fs, "Merge", api.ErrLong, merging(t, c, other, long))
	refuses(t, c, fs, "Merge", api.ErrLong, merging(t, c, other, object.Commit{Note: strings.Repeat("a", 1025)}))
	fs.Stop(0)
	is(t, "Merge without power", merging(t, c, other, long)(), api.ErrLong)
	is(t, "Merge without power", merging(t, c, other, object.Commit{})(), api.ErrCut)
}

func TestMergeOfWhatIsThereInPart(t *testing.T) {
	b := box{}
	root := b.snapshot(t, "a=1|2|3| b=1", "root")
	ours := b.snapshot(t, "a=0|2|3| b=1", "ours", root)
	own := b.clone()
	theirs := b.snapshot(t, "a=1|2|4| b=2 c/d=5", "theirs", root)
	ahead := b.snapshot(t, "a=0|2|3| b=1 e=6", "ahead", ours)
	for id := range b {
		if _, there := own[id]; there || id == theirs || id == ahead {
			continue
		}
		c, fs := begun(t)
		does(t, "Accept", c.Accept("you", ours, own.all()))
		turned(t, c, ours)
		partly(t, c, b.all(id)...)
		for _, other := range []api.ID{theirs, ahead} {
			gone := b.clone()
			delete(gone, id)
			if gone.fault(other) != api.OK {
				refuses(t, c, fs, "Merge", api.ErrMissing, merging(t, c, other, object.Commit{}))
			}
		}
	}
}

func TestMergeOfAPastThatIsThereInPart(t *testing.T) {
	b := box{}
	root := b.snapshot(t, "a=1", "root")
	ours := b.snapshot(t, "a=2", "ours", root)
	own := b.clone()
	mid := b.snapshot(t, "a=1 b=2", "mid", root)
	theirs := b.snapshot(t, "a=1 c=3", "theirs", mid)
	c, fs := begun(t)
	does(t, "Accept", c.Accept("you", ours, own.all()))
	turned(t, c, ours)
	// Nothing of that tree is in what comes of the merge, but it can be reached from there.
	partly(t, c, b.all(tree0(b, mid))...)
	refuses(t, c, fs, "Merge", api.ErrMissing, merging(t, c, theirs, object.Commit{}))
	partly(t, c, b[tree0(b, mid)])
	id, _, e := c.Merge(theirs, object.Commit{})
	does(t, "Merge", e)
	has(t, c, id, "a=2 c=3")
}

func TestMergeToWhatMayNotBe(t *testing.T) {
	b := box{}
	many := func(name string, n int) string {
		out := ""
		for i := range n {
			out += name + strconv.Itoa(i) + "= "
		}
		return out
	}
	root := b.snapshot(t, "a=1", "root")
	ours := b.snapshot(t, "a=1 "+many("x", 128), "ours", root)
	fits := b.snapshot(t, "a=1 "+many("y", 127), "fits", root)
	over := b.snapshot(t, "a=1 "+many("y", 128), "over", root)
	deep := b.snapshot(t, "a=2 "+strings.Repeat("b/", 15)+"b=1", "deep", root)
	far := b.snapshot(t, "a=2 "+strings.Repeat("b/", 15)+"b=1", "far", ours)
	c, fs := begun(t)
	does(t, "Accept", c.Accept("you", ours, b.all()))
	turned(t, c, ours)
	refuses(t, c, fs, "Merge to 257 files", api.ErrLong, merging(t, c, over, object.Commit{}))
	refuses(t, c, fs, "Merge to a wrong path", api.ErrLong, merging(t, c, deep, object.Commit{}))
	refuses(t, c, fs, "Merge to a wrong path", api.ErrLong, merging(t, c, far, object.Commit{}))
	if merges(t, b, ours, fits) != "clean" {
		t.Error("Merge to 256 files")
	}
}

func TestMergeToALongText(t *testing.T) {
	b := box{}
	half := strings.Repeat("\n", 1) + strings.Repeat("m", 131071) + "\n"
	file := func(text string) []snap.File { return []snap.File{{Path: "a", Data: []byte(text)}} }
	snapshot := func(text string, parents ...api.ID) api.ID {
		root, e := snap.Scan(b, file(text))
		does(t, "Scan", e)
		return b.commit(t, root, "n", parents...)
	}
	root := snapshot(half)
	ours := snapshot(half+strings.Repeat("o", 65536), root)
	theirs := snapshot(strings.Repeat("t", 65536)+half, root)
	c, fs := begun(t)
	does(t, "Accept", c.Accept("o", theirs, b.all()))
	turned(t, c, ours)
	refuses(t, c, fs, "Merge", api.ErrLong, merging(t, c, theirs, object.Commit{}))
}

// P22.5

func TestMergeOfCrossedSnapshots(t *testing.T) {
	b := box{}
	root := b.snapshot(t, "f=1|2|3|4|5|", "root")
	x := b.snapshot(t, "f=x|2|3|4|5|", "x", root)
	y := b.snapshot(t, "f=1|2|3|4|y|", "y", root)
	ours := b.snapshot(t, "f=x|2|o|4|y|", "ours", x, y)
	theirs := b.snapshot(t, "f=x|2|3|4|y|t|", "theirs", x, y)
	if merges(t, b, ours, theirs) != "clean" || merges(t, b, theirs, ours) != "clean" {
		t.Error("the merged base isn't that of both")
	}
	// In the base both sides' lines clash, and one side's is taken, of whichever of both.
	z := b.snapshot(t, "f=z|2|3|4|5|", "z", root)
	for _, text := range []string{"x", "z"} {
		ours := b.snapshot(t, "f="+text+"|2|3|4|5|", "ours", x, z)
		theirs := b.snapshot(t, "f=w|2|3|4|5|", "theirs", x, z)
		merges(t, b, ours, theirs)
	}
}

func TestMergeOfClashesAndBlockedFilesInTheBase(t *testing.T) {
	b := box{}
	root := b.snapshot(t, "f=1 g=1", "root")
	kinds := map[string]int{}
	all := []string{"", "f=1 g=1", "f=2 g=1", "f/x=2", "f=3", "g/y=1 f=1", "f/x=3 g=2", "f@4=1 g@2=2"}
	for i, one := range all {
		for _, two := range all[:i] {
			x := b.snapshot(t, one, "x", root)
			y := b.snapshot(t, two, "y", root)
			for _, last := range all[2:] {
				ours := b.snapshot(t, last, "ours", x, y)
				theirs := b.snapshot(t, "f=2 g=2", "theirs", x, y)
				kinds[merges(t, b, ours, theirs)]++
			}
		}
	}
	if kinds["clean"] == 0 || kinds["clash"] == 0 {
		t.Errorf("%v", kinds)
	}
}

// ladder: so many pairs of snapshots, each of which comes from both of the pair below it; the two of the last.
func ladder(t *testing.T, b box, height, wide int, file func(step, side int) string) []api.ID {
	t.Helper()
	var below []api.ID
	for i := range height {
		var now []api.ID
		for side := range wide {
			now = append(now, b.snapshot(t, file(i, side), strconv.Itoa(i)+" "+strconv.Itoa(side), below...))
		}
		below = now
	}
	return below
}

func TestMergeOfBasesWithinOneAnother(t *testing.T) {
	differ := 0
	for height := 30; height < 38; height++ {
		for turn := range 4 {
			b := box{}
			// Which side's is taken turns about from base to base, so that the first of all is told by the last.
			last := ladder(t, b, height, 2, func(step, side int) string {
				return "f=" + strconv.Itoa(side*(turn&1+1)) + "| g=" + strconv.Itoa(step*(turn>>1)+side) + "|"
			})
			ours := b.snapshot(t, "f=0| g=0|", "ours", last[0])
			theirs := b.snapshot(t, "f=1| g=9|", "theirs", last[1])
			merges(t, b, ours, theirs)
			own := b.clone()
			want := own.outcomes(t, ours, theirs, replica.MaxBases)
			for _, most := range []int{replica.MaxBases - 1, replica.MaxBases + 1} {
				if !reflect.DeepEqual(own.outcomes(t, ours, theirs, most), want) {
					differ++
				}
			}
		}
	}
	if differ == 0 {
		t.Error("how many bases there are tells nothing")
	}
}

func TestMergeOfTheSameBasesHigherAndLower(t *testing.T) {
	for height := 28; height < 34; height++ {
		for turn := range 6 {
			b := box{}
			low := ladder(t, b, height, 2, func(step, side int) string { return "f=" + strconv.Itoa(side) + "|" })
			mid := []api.ID{b.snapshot(t, "f=0|", "mid 0", low...), b.snapshot(t, "f=1|", "mid 1", low...)}
			// Two of these have the higher ones in common, and the third has the lower ones in common with both.
			note := strconv.Itoa(turn)
			tops := []api.ID{b.snapshot(t, "f=0|", "a"+note, mid...), b.snapshot(t, "f=1|", "b"+note, mid...), b.snapshot(t, "f=2|", "c"+note, low...)}
			ours := b.snapshot(t, "f=0| g=1", "ours", tops...)
			theirs := b.snapshot(t, "f=1| h=1", "theirs", tops...)
			merges(t, b, ours, theirs)
		}
	}
}

func TestMergeOfManyWaysToTheSameBases(t *testing.T) {
	for _, wide := range []int{2, 3, 8} {
		b := box{}
		last := ladder(t, b, 36, wide, func(step, side int) string { return "f=" + strconv.Itoa(step) + "|" + strconv.Itoa(side) + "|" })
		ours := b.snapshot(t, "f=1| g=1", "ours", last...)
		theirs := b.snapshot(t, "f=1| h=1", "theirs", last...)
		c := at(t, b, ours, theirs)
		id, _, e := c.Merge(theirs, object.Commit{})
		does(t, "Merge", e)
		has(t, c, id, "f=1| g=1 h=1")
	}
}

func TestMergeOfBasesLongerThanAFile(t *testing.T) {
	b := box{}
	files := func(note, text, other string, parents ...api.ID) api.ID {
		root, e := snap.Scan(b, []snap.File{{Path: "a", Data: []byte(text)}, {Path: "b", Data: []byte(other)}})
		does(t, "Scan", e)
		return b.commit(t, root, note, parents...)
	}
	mid, low := "\n"+strings.Repeat("m", 131071)+"\n", "\n"+strings.Repeat("l", 131071)+"\n"
	front, end := strings.Repeat("f", 65536), strings.Repeat("e", 65536)
	root := files("root", mid, low)
	x := files("x", mid+end, low+end, root)
	y := files("y", front+mid, front+low, root)
	ours := files("ours", "short\nb\n", "short\n", x, y)
	theirs := files("theirs", "short\nb\n", "short\n", x, y)
	c := at(t, b, ours, theirs)
	_, _, e := c.Merge(theirs, object.Commit{})
	does(t, "Merge", e)
	has(t, c, c.Head(), "a=short|b| b=short|")
	other := files("other", "short\nc\n", "long\n", x, y)
	c = at(t, b, ours, other)
	_, out, e := c.Merge(other, object.Commit{})
	if e != api.ErrClash || len(out) != 2 {
		t.Fatalf("Merge: %v, %d outcomes", e, len(out))
	}
	for i, text := range []string{mid, low} {
		if !bytes.Contains(out[i].Text, []byte("||||||| base\n"+front+text+end+"\n=======\n")) {
			t.Errorf("the base of %s is another one", out[i].Path)
		}
	}
}

func TestMergeOfBasesThatHaveMoreInCommonWithOneThanWithAnother(t *testing.T) {
	for i := range 12 {
		b := box{}
		note := strconv.Itoa(i)
		root := b.snapshot(t, "f=1|2|3|", "root"+note)
		bases := []api.ID{
			b.snapshot(t, "f=0|2|3|", "x"+note, root),
			b.snapshot(t, "f=1|2|4|", "y"+note, root),
			b.snapshot(t, "g=5|", "z"+note),
			b.snapshot(t, "f=1|2|3| h=6|", "w"+note, root),
		}
		ours := b.snapshot(t, "f=0|9|4|", "ours", bases...)
		theirs := b.snapshot(t, "f=0|2|4|8|", "theirs", bases...)
		merges(t, b, ours, theirs)
		merges(t, b, theirs, ours)
	}
}

func TestMergeOfABaseThatCantBeMerged(t *testing.T) {
	b := box{}
	many := func(name string) string {
		out := ""
		for i := range 129 {
			out += name + strconv.Itoa(i) + "= "
		}
		return out
	}
	x, y := b.snapshot(t, many("x"), "x"), b.snapshot(t, many("y"), "y")
	ours, theirs := b.snapshot(t, "a=1", "ours", x, y), b.snapshot(t, "b=1", "theirs", x, y)
	c, fs := begun(t)
	does(t, "Accept", c.Accept("o", theirs, b.all()))
	turned(t, c, ours)
	refuses(t, c, fs, "Merge", api.ErrLong, merging(t, c, theirs, object.Commit{}))
}

// anyFiles: some files of few lines, often those that others have too.
func anyFiles(r *rand.Rand, was string) string {
	out := map[string]string{}
	for _, field := range strings.Fields(was) {
		name, _, _ := strings.Cut(field, "=")
		out[strings.Split(name, "@")[0]] = field
	}
	for range 1 + r.Intn(2) {
		name := []string{"f", "g", "d", "d/x", "d/y", "d/y/z"}[r.Intn(6)]
		for other := range out {
			if strings.HasPrefix(other, name+"/") || strings.HasPrefix(name, other+"/") {
				delete(out, other)
			}
		}
		delete(out, name)
		if r.Intn(4) > 0 {
			text := ""
			for i := range 4 {
				text += strconv.Itoa(10*i+max(0, r.Intn(8)-5)) + "|"
			}
			out[name] = name + "@" + strconv.Itoa(1+r.Intn(3)) + "=" + text
		}
	}
	var l []string
	for _, field := range out {
		l = append(l, field)
	}
	slices.Sort(l)
	return strings.Join(l, " ")
}

func TestMergesOfManyHistories(t *testing.T) {
	r := rand.New(rand.NewSource(22))
	kinds := map[string]int{}
	deep := 0
	for range 400 {
		b := box{}
		var ids []api.ID
		files := map[api.ID]string{}
		for i := range 2 + r.Intn(14) {
			var parents []api.ID
			// Of late ones, so that ways cross.
			for range min(len(ids), []int{1, 2, 2, 2, 2, 3}[r.Intn(6)]) {
				parents = append(parents, ids[max(0, len(ids)-2-r.Intn(3))])
			}
			was := ""
			if len(parents) > 0 {
				was = files[parents[0]]
			}
			now := anyFiles(r, was)
			id := b.snapshot(t, now, strconv.Itoa(i), parents...)
			ids = append(ids, id)
			files[id] = now
		}
		for range 3 {
			ours, theirs := ids[len(ids)-1-r.Intn(min(len(ids), 4))], ids[len(ids)-1-r.Intn(min(len(ids), 4))]
			kinds[merges(t, b, ours, theirs)]++
			if len(b.tips(t, []api.ID{ours}, theirs)) > 1 {
				deep++
			}
		}
		if t.Failed() {
			return
		}
	}
	for _, kind := range []string{"same", "ahead", "clash", "clean"} {
		if kinds[kind] < 50 {
			t.Errorf("few are %s: %v", kind, kinds)
		}
	}
	if deep < 50 {
		t.Errorf("few have several bases: %d", deep)
	}
}
