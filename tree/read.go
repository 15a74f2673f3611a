package tree

import (
	"slices"

	"towline/api"
	"towline/object"
	"towline/path"
)

// reader comes by the files of a tree whose records its source gives.
type reader struct {
	Source
	files   []File
	entries int // how many it has come by
}

// folder goes through a folder's tree, and into the folders within it; way is the names that lead to it.
func (r *reader) folder(id api.ID, way ...string) api.Errno {
	data, e := r.Get(id)
	if e != api.OK {
		return e
	}
	l, e := object.GetTree(data)
	if e != api.OK {
		return e
	}
	for _, x := range l {
		if e := r.entry(x, append(slices.Clone(way), x.Name)); e != api.OK {
			return e
		}
	}
	return api.OK
}

// entry takes an entry, to which the names of way lead, and all within it.
func (r *reader) entry(x object.Entry, way []string) api.Errno {
	p := path.Join(way...)
	if e := path.Check(p); e != api.OK {
		return e
	}
	r.entries++
	if !x.Folder {
		r.files = append(r.files, File{p, x.ID, x.Stamp})
	}
	// Asked ahead of going into a folder: else a source whose trees tell of themselves would be gone through for long.
	if len(r.files) > api.MaxFiles || r.entries > MaxEntries {
		return api.ErrLong
	}
	if x.Folder {
		return r.folder(x.ID, way...)
	}
	return api.OK
}
