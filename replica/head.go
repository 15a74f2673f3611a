package replica

import (
	"towline/api"
	"towline/checkout"
	"towline/sha"
	"towline/snap"
	"towline/store"
	"towline/vfs"
)

// The names of a copy's own files, which tell of a snapshot each. The head isn't among the peers, as any name may be one of theirs.
const (
	head   = "head"
	next   = "head.next" // what is to be the head, while the working tree is turned to that
	beside = "head.new"  // what is written, until it is whole
)

// told: the snapshot of which a file tells; the zero id, if there is no such file.
func told(fs *vfs.FS, name string) api.ID {
	text, _ := fs.Read(name)
	id, _ := sha.Parse(string(text))
	return id
}

// tell: a file tells of a snapshot, durably.
func tell(fs *vfs.FS, name string, id api.ID) api.Errno {
	return store.Replace(fs, name, beside, []byte(sha.Hex(id)))
}

// turn: the working tree is that of a snapshot, which is the head. Both become so at one step, when next is renamed: behind a crash ahead of that, finish looks how far it came.
func (c *Replica) turn(id api.ID) api.Errno {
	x, e := snap.Read(c.store, id)
	if e != api.OK {
		return e
	}
	if e := c.store.Sync(); e != api.OK {
		return e
	}
	if e := tell(c.fs, next, id); e != api.OK {
		return e
	}
	if e := checkout.Move(c.fs, c.store, x.Tree); e != api.OK {
		return e
	}
	return c.arrive()
}

// arrive: what is to be the head is it. This needs no room, which there may not be behind a crash.
func (c *Replica) arrive() api.Errno {
	if e := c.fs.Rename(next, head); e != api.OK {
		return e
	}
	return c.fs.Flush()
}

// finish: where a turn was cut off, the head is that of which the working tree is.
func (c *Replica) finish() api.Errno {
	id := told(c.fs, next)
	if id == (api.ID{}) {
		return api.OK
	}
	came, e := c.isAt(id)
	if e != api.OK {
		return e
	}
	if came {
		return c.arrive()
	}
	if e := c.fs.Remove(next); e != api.OK {
		return e
	}
	return c.fs.Flush()
}
