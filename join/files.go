package join

import (
	"towline/api"
	"towline/lines"
	"towline/path"
	"towline/stamp"
	"towline/tree"
	"towline/weave"
)

// Where each snapshot's things stand.
const (
	base = iota
	ours
	theirs
)

// files is what the three snapshots have at a path, and what becomes of it.
type files struct {
	Outcome
	stamps [3]float64
}

// next takes the files of the first path that any snapshot has left off what is left of them; false, if there is none.
func next(left *[3][]tree.File) (files, bool) {
	var f files
	found := false
	for _, l := range left {
		if len(l) > 0 && (!found || path.Compare(l[0].Path, f.Path) < 0) {
			f.Path, found = l[0].Path, true
		}
	}
	for i, l := range left {
		if len(l) > 0 && l[0].Path == f.Path {
			f.Has[i], f.IDs[i], f.stamps[i] = true, l[0].ID, l[0].Stamp
			left[i] = l[1:]
		}
	}
	return f, found
}

// decide finds out what becomes of the path; false, if it is gone.
func (f *files) decide(src Source) (bool, api.Errno) {
	f.Stamp = f.time()
	switch {
	case f.alike(ours, theirs), f.alike(base, theirs):
		return f.keep(ours), api.OK
	case f.alike(base, ours):
		return f.keep(theirs), api.OK
	}
	f.Kind = Clash
	if !f.Has[ours] || !f.Has[theirs] {
		return true, api.OK
	}
	return true, f.mix(src)
}

// alike: are two snapshots alike at the path? An id alone doesn't tell: a file's may be zero.
func (f *files) alike(a, b int) bool {
	return f.Has[a] == f.Has[b] && f.IDs[a] == f.IDs[b]
}

// time: the time of the path, as the sides that have it say.
func (f *files) time() float64 {
	o, t := f.stamps[ours], f.stamps[theirs]
	switch {
	case !f.Has[theirs]:
		return stamp.Canon(o)
	case !f.Has[ours]:
		return stamp.Canon(t)
	case f.Has[base] && stamp.Compare(f.stamps[base], o) == 0:
		return stamp.Canon(t)
	case f.Has[base] && stamp.Compare(f.stamps[base], t) == 0:
		return stamp.Canon(o)
	}
	return stamp.Latest(o, t)
}

// keep leaves the path as one side has it; false, if that side hasn't it.
func (f *files) keep(side int) bool {
	f.Kind, f.ID = Keep, f.IDs[side]
	return f.Has[side]
}

// mix makes a text of both sides', where all are texts and no more than can be merged.
func (f *files) mix(src Source) api.Errno {
	var texts [3][]string
	for i, id := range f.IDs {
		if !f.Has[i] {
			continue
		}
		b, e := src.Text(id)
		if e != api.OK {
			return e
		}
		if !lines.IsText(b) {
			return api.OK
		}
		texts[i] = lines.Split(b)
	}
	parts, e := weave.Merge(texts[base], texts[ours], texts[theirs])
	if e != api.OK {
		// No fault of the snapshots: the path is left to people, as if it were no text.
		return api.OK
	}
	list, clean := weave.Text(parts, "ours", "theirs")
	f.Text = lines.Join(list...)
	if clean {
		f.Kind = Woven
	}
	return api.OK
}
