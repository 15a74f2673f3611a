package replica

import (
	"bytes"
	"strconv"
	"strings"

	"towline/api"
	"towline/dag"
	"towline/join"
	"towline/sha"
	"towline/snap"
	"towline/tree"
)

// merger is a copy that gives also the texts of bases that were merged: these aren't put.
type merger struct {
	*Replica
	graph *dag.Graph
	texts map[api.ID][]byte
	bases map[string][]tree.File // that were found: ways without number may lead to the same ones
}

// newMerger: a copy whose history is that graph, and no bases were merged.
func newMerger(c *Replica, g *dag.Graph) *merger {
	return &merger{c, g, map[api.ID][]byte{}, map[string][]tree.File{}}
}

// Text: a blob's bytes.
func (m *merger) Text(id api.ID) ([]byte, api.Errno) {
	if text, there := m.texts[id]; there {
		return bytes.Clone(text), api.OK
	}
	return m.Replica.Text(id)
}

// outcomes: what becomes of each path of two snapshots.
func (m *merger) outcomes(ours, theirs string) ([]join.Outcome, api.Errno) {
	base, e := m.base([]string{ours}, theirs, 0)
	if e != api.OK {
		return nil, e
	}
	l, e := m.files(ours)
	if e != api.OK {
		return nil, e
	}
	return m.mix(base, l, theirs)
}

// mix: what becomes of each path of some files and a snapshot.
func (m *merger) mix(base, l []tree.File, theirs string) ([]join.Outcome, api.Errno) {
	other, e := m.files(theirs)
	if e != api.OK {
		return nil, e
	}
	return join.Merge([3][]tree.File{base, l, other}, m)
}

// files: those of a snapshot.
func (m *merger) files(node string) ([]tree.File, api.Errno) {
	id, e := sha.Parse(node)
	if e != api.OK {
		return nil, e
	}
	x, e := snap.Read(m.store, id)
	if e != api.OK {
		return nil, e
	}
	return tree.Read(m, x.Tree)
}

// base: the files of the base of some snapshots and another one, within so many other bases.
func (m *merger) base(some []string, other string, within int) ([]tree.File, api.Errno) {
	if within == MaxBases {
		return nil, api.OK
	}
	tips := m.tips(some, other)
	if len(tips) == 0 {
		return nil, api.OK
	}
	key := strconv.Itoa(within) + " " + strings.Join(tips, " ")
	if l, found := m.bases[key]; found {
		return l, api.OK
	}
	l, e := m.files(tips[0])
	for i := 1; e == api.OK && i < len(tips); i++ {
		l, e = m.more(l, tips[:i], tips[i], within+1)
	}
	if e != api.OK {
		return nil, e
	}
	m.bases[key] = l
	return l, api.OK
}

// tips: of all from which one of some snapshots and another one both come those from which no other one of these comes.
func (m *merger) tips(some []string, other string) []string {
	others := map[string]struct{}{}
	for _, n := range m.graph.Ancestors(other) {
		others[n] = struct{}{}
	}
	var both []string
	for _, n := range m.graph.Ancestors(some...) {
		if _, shared := others[n]; shared {
			both = append(both, n)
		}
	}
	return m.graph.Tips(both...)
}

// more: the files of some snapshots, which are merged already, merged with those of one more.
func (m *merger) more(l []tree.File, some []string, tip string, within int) ([]tree.File, api.Errno) {
	base, e := m.base(some, tip, within)
	if e != api.OK {
		return nil, e
	}
	out, e := m.mix(base, l, tip)
	if e != api.OK {
		return nil, e
	}
	return m.counted(out), api.OK
}

// counted: the files that count in a base. There nobody is asked: of a clash one side is taken.
func (m *merger) counted(out []join.Outcome) []tree.File {
	var l []tree.File
	for _, o := range out {
		f := tree.File{Path: o.Path, ID: o.ID, Stamp: o.Stamp}
		switch o.Kind {
		case join.Blocked:
			continue
		case join.Woven:
			f.ID = m.aside(o.Text)
		case join.Clash:
			f.ID = o.IDs[1]
			if !o.Has[1] {
				f.ID = o.IDs[2]
			}
		}
		l = append(l, f)
	}
	return l
}

// aside: a text is given from now on; the answer is the id that its blob has.
func (m *merger) aside(text []byte) api.ID {
	id, e := snap.Blob(sums{}, text)
	if e != api.OK {
		// More than a blob has: the text's own Sum will do, as no blob's record is so long.
		id = sha.Sum(text)
	}
	m.texts[id] = text
	return id
}

// sums is a shelf on which nothing stays: it tells ids alone.
type sums struct{}

// Put: a record's id.
func (sums) Put(data []byte) (api.ID, api.Errno) { return sha.Sum(data), api.OK }

// Get: no record is there.
func (sums) Get(id api.ID) ([]byte, api.Errno) { return nil, api.ErrMissing }
