package store

import (
	"slices"
	"strconv"
	"strings"

	"towline/api"
	"towline/pack"
	"towline/vfs"
)

// Replace writes a file anew beside the old one and renames it over that: behind a crash it is the old or the new one.
func Replace(fs *vfs.FS, name, beside string, text []byte) api.Errno {
	if len(text) > free(fs, beside) {
		return api.ErrFull
	}
	if e := write(fs, beside, text); e != api.OK {
		return e
	}
	if e := fs.Rename(beside, name); e != api.OK {
		return e
	}
	return fs.Flush()
}

// free: how many bytes there is room for, once a file is emptied.
func free(fs *vfs.FS, emptied string) int {
	b, _ := fs.Read(emptied)
	return fs.Left() + len(b)
}

// write: a file has just these bytes, which are durable; its name may not be.
func write(fs *vfs.FS, name string, text []byte) api.Errno {
	e := fs.Create(name)
	if e == api.ErrTwice {
		e = fs.Cut(name, 0)
	}
	if e != api.OK {
		return e
	}
	if e := fs.Append(name, text); e != api.OK {
		return e
	}
	return fs.Sync(name)
}

// lay: the store is some of its packs and, behind them, a new one with these bytes. Until the index tells of that, all is as it was.
func (s *Store) lay(b []byte, kept ...*pack.Pack) api.Errno {
	name := s.unused()
	text := lines(name, kept...)
	if len(b)+len(text) > free(s.fs, beside) {
		return api.ErrFull
	}
	if e := write(s.fs, name, b); e != api.OK {
		return e
	}
	if e := Replace(s.fs, index, beside, []byte(text)); e != api.OK {
		return e
	}
	p, e := pack.Open(s.fs, name)
	if e != api.OK {
		return e
	}
	s.packs = append(slices.Clone(kept), p)
	return api.OK
}

// unused: a name for a new pack, which no file has.
func (s *Store) unused() string {
	taken := s.fs.List()
	for n := 1; ; n++ {
		name := numbered + strconv.Itoa(n)
		if !slices.Contains(taken, name) {
			return name
		}
	}
}

// lines: the index of some packs and one more with that name.
func lines(name string, packs ...*pack.Pack) string {
	text := ""
	for _, p := range packs {
		text += p.Name() + "\n"
	}
	return text + name + "\n"
}

// tidy: all files are gone that are no part of the store any more, or that a crash left, durably.
func (s *Store) tidy() api.Errno {
	for _, name := range s.fs.List() {
		if !strings.HasPrefix(name, prefix) || name == index || s.uses(name) {
			continue
		}
		if e := s.fs.Remove(name); e != api.OK {
			return e
		}
	}
	return s.fs.Flush()
}
