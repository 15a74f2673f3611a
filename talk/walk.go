package talk

import (
	"towline/api"
	"towline/collect"
	"towline/object"
)

// walk knows what of a source was come by.
type walk struct {
	src   collect.Source
	known map[api.ID]struct{}
}

// newWalk: nothing of a source was come by.
func newWalk(src collect.Source) *walk {
	return &walk{src, map[api.ID]struct{}{}}
}

// reach: of all that can be reached from some ids and wasn't come by ahead, what the source hasn't, level by level.
func (w *walk) reach(level ...api.ID) []api.ID {
	var lacking []api.ID
	for len(level) > 0 {
		var below []api.ID
		for _, id := range level {
			if _, known := w.known[id]; known {
				continue
			}
			w.known[id] = struct{}{}
			record, e := w.src.Get(id)
			if e != api.OK {
				lacking = append(lacking, id)
				continue
			}
			// Bytes that are no record are there all the same; they just lead nowhere.
			links, _ := object.Links(record)
			below = append(below, links...)
		}
		level = below
	}
	return lacking
}
