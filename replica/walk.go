package replica

import (
	"towline/api"
	"towline/dag"
	"towline/object"
	"towline/sha"
	"towline/snap"
)

// walk: all to which some ids lead, each once and behind all to which it leads itself; what leads where is asked of a function, whose first error is the answer.
func walk(links func(id api.ID) ([]api.ID, api.Errno), roots ...api.ID) ([]api.ID, api.Errno) {
	// The way is a list, as calls within calls would be as many as there are snapshots in a row.
	type step struct {
		id   api.ID
		rest []api.ID // that weren't gone to yet
	}
	var way []step
	seen := map[api.ID]struct{}{}
	push := func(id api.ID) api.Errno {
		if _, known := seen[id]; known {
			return api.OK
		}
		seen[id] = struct{}{}
		rest, e := links(id)
		way = append(way, step{id, rest})
		return e
	}
	var out []api.ID
	for _, root := range roots {
		e := push(root)
		for e == api.OK && len(way) > 0 {
			last := &way[len(way)-1]
			if len(last.rest) == 0 {
				out = append(out, last.id)
				way = way[:len(way)-1]
				continue
			}
			id := last.rest[0]
			last.rest = last.rest[1:]
			e = push(id)
		}
		if e != api.OK {
			return nil, e
		}
	}
	return out, api.OK
}

// parents: those of a snapshot; of another record that is there none.
func (c *Replica) parents(id api.ID) ([]api.ID, api.Errno) {
	record, e := c.Get(id)
	if e != api.OK {
		return nil, e
	}
	x, _ := object.GetCommit(record)
	return x.Parents, api.OK
}

// links: of what a record tells; of nothing, if it is none: somebody else may have sent anything.
func (c *Replica) links(id api.ID) ([]api.ID, api.Errno) {
	record, e := c.Get(id)
	if e != api.OK {
		return nil, e
	}
	ids, _ := object.Links(record)
	return ids, api.OK
}

// history: the graph of all from which another snapshot and the head come.
func (c *Replica) history(other api.ID) (*dag.Graph, api.Errno) {
	if _, e := snap.Read(c.store, other); e != api.OK {
		return nil, e
	}
	parents := map[api.ID][]api.ID{}
	read := func(id api.ID) ([]api.ID, api.Errno) {
		x, e := snap.Read(c.store, id)
		parents[id] = x.Parents
		return x.Parents, e
	}
	all, e := walk(read, append(c.heads(), other)...)
	if e != api.OK {
		return nil, e
	}
	g := dag.New()
	for _, id := range all {
		if e := g.Add(sha.Hex(id), hexes(parents[id])...); e != api.OK {
			return nil, e
		}
	}
	return g, api.OK
}

// hexes: ids as nodes.
func hexes(ids []api.ID) []string {
	var nodes []string
	for _, id := range ids {
		nodes = append(nodes, sha.Hex(id))
	}
	return nodes
}
