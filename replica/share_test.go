package replica_test

import (
	"bytes"
	"math"
	"slices"
	"strconv"
	"strings"
	"testing"

	"towline/api"
	"towline/object"
	"towline/replica"
	"towline/snap"
	"towline/vfs"
)

// P1

// everything: each call, with arguments of all kinds.
func everything(c *replica.Replica, ids []api.ID) {
	texts := []string{"", "a", "a/b", "/", "a//b", "..", "\x00", "\xff", strings.Repeat("a", 300), strings.Repeat("a/", 100)}
	long := object.Commit{Parents: make([]api.ID, 100), Stamp: math.NaN(), Author: strings.Repeat("\xff", 1000), Note: strings.Repeat("\n", 5000)}
	for _, id := range ids {
		c.Get(id)
		c.Text(id)
		c.Comes(id, ids[0])
		c.Comes(ids[0], id)
		c.Switch(id)
		c.Merge(id, long)
		c.Merge(id, object.Commit{})
		c.Accept("a", id, nil)
	}
	for i, text := range texts {
		c.Peer(text)
		c.Remove(text)
		c.Write(snap.File{Path: text, Data: []byte(text), Stamp: math.Inf(-i)})
		c.Accept(text, ids[i%len(ids)], [][]byte{nil, []byte(text), {0}, make([]byte, 1<<19+i)})
	}
	c.Commit(long)
	c.Commit(object.Commit{})
	c.Files()
	c.Head()
	c.Records()
	c.Collect()
}

// busy: a copy in which something of each kind lies.
func busy(t *testing.T, fs *vfs.FS) (*replica.Replica, []api.ID) {
	t.Helper()
	b := box{}
	root := b.snapshot(t, "f=1|2|3|", "root")
	ours := b.snapshot(t, "f=0|2|3|", "ours", root)
	theirs := b.snapshot(t, "f=1|2|4|", "theirs", root)
	other := b.snapshot(t, "f=9|2|4|", "other", root)
	c := opened(t, fs)
	does(t, "Accept", c.Accept("you", theirs, b.all()))
	does(t, "Accept", c.Accept("o", other, b.all()))
	turned(t, c, ours)
	ids := append(sorted(c), zero, api.ID{1}, theirs)
	return c, ids
}

func TestCallsOfAnyArgumentsEnd(t *testing.T) {
	c, ids := busy(t, disk(t, 1<<20))
	everything(c, ids)
	whole(t, c)
	everything(c, ids)
	whole(t, c)
}

func TestCallsBehindACutEnd(t *testing.T) {
	for stop := range 40 {
		fs := disk(t, 1<<20)
		c, ids := busy(t, fs)
		fs.Stop(stop)
		everything(c, ids)
		fs.Crash(stop%3, stop%7*10)
		everything(c, ids)
		whole(t, opened(t, fs))
	}
}

func TestCallsBehindACrashEnd(t *testing.T) {
	for keep := range 5 {
		fs := disk(t, 1<<20)
		c, ids := busy(t, fs)
		for _, name := range fs.List() {
			text, _ := fs.Read(name)
			fs.Cut(name, len(text)*keep/4)
		}
		everything(c, ids)
		fs.Crash(0, 0)
		everything(c, ids)
	}
}

func TestOpenOfWhatNobodyLaidEnds(t *testing.T) {
	full := disk(t, 1<<20)
	busy(t, full)
	for _, name := range append(full.List(), "head.next", "head.new", "todo", "todo.new", "refs.new", "packs.new", "work/f", "work") {
		for _, text := range []string{"", "junk", strings.Repeat("0", 64), strings.Repeat("1", 64), strings.Repeat("\xff", 5000)} {
			fs := full.Fork()
			fs.Create(name)
			fs.Cut(name, 0)
			fs.Append(name, []byte(text))
			c, e := replica.Open(fs)
			if (e == api.OK) != (c != nil) {
				t.Errorf("Open: %v", e)
			}
			if e == api.OK {
				everything(c, []api.ID{{1}, zero})
			}
		}
	}
}

func TestManySnapshotsInARow(t *testing.T) {
	b := box{}
	var parents []api.ID
	root, _ := snap.Scan(b, nil)
	first := b.commit(t, root, "")
	last := first
	for i := range 2000 {
		last = b.commit(t, root, strconv.Itoa(i), last)
		parents = append(parents, last)
	}
	c, _ := begun(t)
	does(t, "Accept", c.Accept("you", last, b.all()))
	if comes, e := c.Comes(last, first); e != api.OK || !comes {
		t.Errorf("Comes: %v", e)
	}
	turned(t, c, parents[1000])
	if _, _, e := c.Merge(first, object.Commit{}); e != api.ErrSame {
		t.Errorf("Merge: %v", e)
	}
	made(t, c, "a=x")
	id, _, e := c.Merge(last, object.Commit{})
	does(t, "Merge", e)
	has(t, c, id, "a=x")
	if n, e := c.Collect(); e != api.OK || n != len(c.Records()) {
		t.Errorf("Collect: %v", e)
	}
}

// P2

// over writes over all bytes of a slice, its spare room too.
func over(b []byte) {
	b = b[:cap(b)]
	for i := range b {
		b[i] = 'X'
	}
}

func TestWhatIsHandedInIsNeitherChangedNorKept(t *testing.T) {
	c, fs := begun(t)
	data := append(make([]byte, 0, 20), "x"...)
	f := snap.File{Path: "a", Data: data}
	does(t, "Write", c.Write(f))
	if string(data) != "x" || !bytes.Equal(data[:20], append([]byte("x"), make([]byte, 19)...)) {
		t.Error("Write changes its bytes")
	}
	over(data)
	parents := []api.ID{{3}, {1}, {2}}
	x := object.Commit{Parents: parents}
	first, e := c.Commit(x)
	does(t, "Commit", e)
	if !slices.Equal(parents, []api.ID{{3}, {1}, {2}}) {
		t.Error("Commit changes the parents")
	}
	has(t, c, first, "a=x")
	b := box{}
	theirs := b.snapshot(t, "b=y", "theirs")
	records := b.all()
	var was [][]byte
	for i := range records {
		records[i] = append(make([]byte, 0, len(records[i])+9), records[i]...)
		was = append(was, bytes.Clone(records[i][:cap(records[i])]))
	}
	does(t, "Accept", c.Accept("you", theirs, records))
	for i := range records {
		if !bytes.Equal(records[i][:cap(records[i])], was[i]) {
			t.Error("Accept changes a record")
		}
		over(records[i])
	}
	clear(records)
	whole(t, c)
	id, _, e := c.Merge(theirs, x)
	does(t, "Merge", e)
	if !slices.Equal(parents, []api.ID{{3}, {1}, {2}}) {
		t.Error("Merge changes the parents")
	}
	has(t, c, id, "a=x b=y")
	fs.Crash(0, 0)
	has(t, opened(t, fs), id, "a=x b=y")
}

func TestAnswersShareNothing(t *testing.T) {
	fs := disk(t, 1<<20)
	c, ids := busy(t, fs)
	was := state(t, c, fs)
	for _, id := range ids {
		b, _ := c.Get(id)
		over(b)
		b, _ = c.Text(id)
		over(b)
	}
	l, _ := c.Files()
	for _, f := range l[:cap(l)] {
		over(f.Data)
	}
	clear(l[:cap(l)])
	all := c.Records()
	clear(all[:cap(all)])
	if got := state(t, c, fs); got != was {
		t.Errorf("%s became %s", was, got)
	}
	whole(t, c)
	for _, name := range []string{"o", "you"} {
		other, _ := c.Peer(name)
		_, out, e := c.Merge(other, object.Commit{})
		if len(out) != 1 || name == "o" && e != api.ErrClash || name == "you" && e != api.OK {
			t.Fatalf("Merge: %v %v", out, e)
		}
		over(out[0].Text)
		clear(out[:cap(out)])
	}
	if got := there(t, c); got != "f=0|2|4|" {
		t.Errorf("the working tree is %q", got)
	}
	whole(t, c)
}

func TestTwoCopiesShareNothing(t *testing.T) {
	one, _ := begun(t)
	two, _ := begun(t)
	first := made(t, one, "a=x")
	has(t, two, zero, "")
	made(t, two, "a=y")
	has(t, one, first, "a=x")
	if len(one.Records()) != 4 || len(two.Records()) != 4 {
		t.Errorf("%d and %d records", len(one.Records()), len(two.Records()))
	}
}

// What a call answers hangs on the calls alone, not on the order of a map or on what was tried ahead.
func TestTheSameCallsAnswerTheSame(t *testing.T) {
	tell := func() string {
		fs := disk(t, 1<<20)
		c, ids := busy(t, fs)
		everything(c, ids)
		out := state(t, c, fs) + strconv.Itoa(fs.Steps()) + strconv.Itoa(fs.Used())
		for _, id := range c.Records() {
			out += string(id[:])
		}
		return out
	}
	if tell() != tell() {
		t.Error("the same calls answer something else")
	}
}
