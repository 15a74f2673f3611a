package replica

import (
	"bytes"
	"math"
	"slices"

	"towline/api"
	"towline/collect"
	"towline/path"
	"towline/snap"
)

const (
	folder = "work/" // where the working tree lies
	spare  = 2048    // bytes: more than the record of a snapshot has, with the file that tells of the head
)

// heads: the head; none, if there is none.
func (c *Replica) heads() []api.ID {
	id := c.Head()
	if id == (api.ID{}) {
		return nil
	}
	return []api.ID{id}
}

// room: ErrFull, where there isn't room for any new snapshot, whatever it may be.
func (c *Replica) room() api.Errno {
	if c.fs.Left() < spare {
		return api.ErrFull
	}
	return api.OK
}

// settled: ErrState, if the working tree isn't that of the head.
func (c *Replica) settled() api.Errno {
	same, e := c.isAt(c.Head())
	if e == api.OK && !same {
		return api.ErrState
	}
	return e
}

// isAt: is the working tree that of a snapshot, or, of the zero id, has it no files?
func (c *Replica) isAt(id api.ID) (bool, api.Errno) {
	var want []snap.File
	if id != (api.ID{}) {
		l, e := c.load(id)
		if e != api.OK {
			return false, e
		}
		want = l
	}
	files, e := c.Files()
	return e == api.OK && slices.EqualFunc(files, want, alike), e
}

// alike: are two files one? Their times are Canons, so that their bits tell.
func alike(f, g snap.File) bool {
	return f.Path == g.Path && math.Float64bits(f.Stamp) == math.Float64bits(g.Stamp) && bytes.Equal(f.Data, g.Data)
}

// load: the files of a snapshot.
func (c *Replica) load(id api.ID) ([]snap.File, api.Errno) {
	x, e := snap.Read(c.store, id)
	if e != api.OK {
		return nil, e
	}
	return snap.Load(c.store, x.Tree)
}

// whole: the files of a snapshot of which nothing is missing.
func (c *Replica) whole(id api.ID) ([]snap.File, api.Errno) {
	if len(collect.Lost(c, id)) > 0 {
		return nil, api.ErrMissing
	}
	return c.load(id)
}

// fit: may there be such files in a working tree?
func fit(files []snap.File) api.Errno {
	for _, f := range files {
		if e := path.Check(folder + f.Path); e != api.OK {
			return e
		}
	}
	return api.OK
}
