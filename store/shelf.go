package store

import (
	"towline/api"
	"towline/pack"
)

// shelf is packs: each record lies in one of them, and new ones go into the last.
type shelf struct {
	packs []*pack.Pack
}

// Has: is there a record?
func (s *shelf) Has(id api.ID) bool { return s.holder(id) != nil }

// Get: a record's bytes.
func (s *shelf) Get(id api.ID) ([]byte, api.Errno) {
	if p := s.holder(id); p != nil {
		return p.Get(id)
	}
	return nil, api.ErrMissing
}

// IDs: all records' ids, each once.
func (s *shelf) IDs() []api.ID {
	var all []api.ID
	for _, p := range s.packs {
		all = append(all, p.IDs()...)
	}
	return all
}

// Packs: in how many packs records lie; one at least.
func (s *shelf) Packs() int {
	n := 0
	for _, p := range s.packs {
		if len(p.IDs()) > 0 {
			n++
		}
	}
	return max(n, 1)
}

// holder: the pack in which a record lies; nil, if it is nowhere.
func (s *shelf) holder(id api.ID) *pack.Pack {
	for _, p := range s.packs {
		if p.Has(id) {
			return p
		}
	}
	return nil
}

// last: the pack into which new records go.
func (s *shelf) last() *pack.Pack { return s.packs[len(s.packs)-1] }

// uses: does one of the packs lie in the file of that name?
func (s *shelf) uses(name string) bool {
	for _, p := range s.packs {
		if p.Name() == name {
			return true
		}
	}
	return false
}
