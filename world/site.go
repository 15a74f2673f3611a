package world

import (
	"towline/api"
	"towline/replica"
	"towline/vfs"
)

// site is a copy, and what belongs to it.
type site struct {
	*replica.Replica
	fs      *vfs.FS
	up      bool
	fetches map[int]*fetch // what it fetches, by the number of the copy from which; none behind a crash, as no disk keeps that
}

// newSite: a copy without anything, with so much room, that is up.
func newSite(room int) (*site, api.Errno) {
	fs, e := vfs.New(room)
	if e != api.OK {
		return nil, e
	}
	s := &site{Replica: new(replica.Replica), fs: fs}
	if e := s.start(); e != api.OK {
		return nil, e
	}
	return s, api.OK
}

// start: the copy is up. It is the same one for whoever held it ahead of a crash, so that nobody works on its file system beside it.
func (s *site) start() api.Errno {
	s.fs.Stop(-1)
	c, e := replica.Open(s.fs)
	if e != api.OK {
		s.fs.Stop(0)
		return e
	}
	*s.Replica = *c
	s.up = true
	s.fetches = map[int]*fetch{}
	return api.OK
}

// crash: the copy is down, and without power: whoever holds it can change nothing.
func (s *site) crash(acts, bytes int) {
	s.fs.Crash(acts, bytes)
	s.fs.Stop(0)
	s.up = false
}
