package replica

import (
	"towline/api"
	"towline/collect"
	"towline/join"
	"towline/object"
	"towline/snap"
	"towline/tree"
)

// steps does what takes steps. Where that was cut off on its way, what is kept here isn't what lies in the file system: nothing more is done then, even if the power came back without a crash, until the copy is opened again.
func (c *Replica) steps(do func() api.Errno) api.Errno {
	if c.torn {
		return api.ErrCut
	}
	was := c.fs.Steps()
	e := do()
	c.torn = e == api.ErrCut && c.fs.Steps() > was
	return e
}

// safely does something in a fork first: what is refused there has changed nothing here.
func (c *Replica) safely(do func(c *Replica) (api.ID, api.Errno)) (api.ID, api.Errno) {
	fork, e := Open(c.fs.Fork())
	if e != api.OK {
		return api.ID{}, e
	}
	if _, e := do(fork); e != api.OK {
		return api.ID{}, e
	}
	var id api.ID
	e = c.steps(func() (e api.Errno) {
		id, e = do(c)
		return e
	})
	if e != api.OK {
		return api.ID{}, e
	}
	return id, api.OK
}

// commit: a snapshot of some files, which are the working tree's, is the head.
func (c *Replica) commit(files []snap.File, x object.Commit) (api.ID, api.Errno) {
	root, e := snap.Scan(c.store, files)
	if e != api.OK {
		return api.ID{}, e
	}
	x.Tree = root
	id, e := snap.Commit(c.store, x)
	if e != api.OK {
		return api.ID{}, e
	}
	if e := c.store.Sync(); e != api.OK {
		return api.ID{}, e
	}
	return id, tell(c.fs, head, id)
}

// enter: a snapshot of what was merged is the head, and the working tree is its.
func (c *Replica) enter(out []join.Outcome, x object.Commit) (api.ID, api.Errno) {
	l, e := c.put(out)
	if e != api.OK {
		return api.ID{}, e
	}
	root, e := snap.Trees(c.store, l)
	if e != api.OK {
		return api.ID{}, e
	}
	x.Tree = root
	id, e := snap.Commit(c.store, x)
	if e != api.OK {
		return api.ID{}, e
	}
	files, e := c.whole(id)
	if e != api.OK {
		return api.ID{}, e
	}
	if e := fit(files); e != api.OK {
		return api.ID{}, e
	}
	return id, c.turn(id)
}

// put: the texts of what was merged are put: all its files.
func (c *Replica) put(out []join.Outcome) ([]tree.File, api.Errno) {
	var l []tree.File
	for _, o := range out {
		f := tree.File{Path: o.Path, ID: o.ID, Stamp: o.Stamp}
		if o.Kind == join.Woven {
			id, e := snap.Blob(c.store, o.Text)
			if e != api.OK {
				return nil, e
			}
			f.ID = id
		}
		l = append(l, f)
	}
	return l, api.OK
}

// accept: what somebody else has is put and, if nothing of it is missing, known.
func (c *Replica) accept(name string, id api.ID, records [][]byte) api.Errno {
	for _, record := range records {
		if _, e := c.store.Put(record); e != api.OK {
			return e
		}
	}
	if len(collect.Lost(c, id)) > 0 {
		return api.ErrMissing
	}
	old, unknown := c.Peer(name)
	if unknown == api.OK {
		comes, e := c.Comes(id, old)
		if e != api.OK {
			return e
		}
		if !comes {
			return api.ErrOrder
		}
	}
	if _, e := snap.Read(c.store, id); e != api.OK {
		return e
	}
	if e := c.store.Sync(); e != api.OK {
		return e
	}
	return c.peers.Set(name, old, id)
}
