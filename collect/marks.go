package collect

import (
	"towline/api"
	"towline/object"
)

// marks tells which records of its source were come by.
type marks struct {
	Source
	known map[api.ID]struct{}
	way   []step   // from a root to where it is now
	done  []api.ID // of which all links were gone through, in that order
}

// step is a record on the way, and its links that weren't looked at yet.
type step struct {
	id   api.ID
	rest []api.ID
}

// newMarks: nothing of a source was come by.
func newMarks(s Source) *marks {
	return &marks{Source: s, known: map[api.ID]struct{}{}}
}

// first: is an id come by the first time?
func (m *marks) first(id api.ID) bool {
	ahead := len(m.known)
	m.known[id] = struct{}{}
	return len(m.known) > ahead
}

// through goes through all that can be reached from a root. The way is a list, as calls within calls would be as many as there are snapshots in a row.
func (m *marks) through(root api.ID) api.Errno {
	e := m.into(root)
	for e == api.OK && len(m.way) > 0 {
		last := &m.way[len(m.way)-1]
		if len(last.rest) == 0 {
			m.done = append(m.done, last.id)
			m.way = m.way[:len(m.way)-1]
			continue
		}
		next := last.rest[0]
		last.rest = last.rest[1:]
		e = m.into(next)
	}
	return e
}

// into goes a step further, into a record that is come by the first time.
func (m *marks) into(id api.ID) api.Errno {
	if !m.first(id) {
		return api.OK
	}
	record, e := m.Get(id)
	if e != api.OK {
		return e
	}
	links, e := object.Links(record)
	if e != api.OK {
		return e
	}
	m.way = append(m.way, step{id, links})
	return api.OK
}
