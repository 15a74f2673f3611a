package world

import (
	"slices"

	"towline/api"
	"towline/object"
	"towline/replica"
	"towline/talk"
)

// fetch is what a copy fetches from another one, and what it asked for last.
type fetch struct {
	*talk.Fetch
	own   *trunk
	asked []api.ID
}

// newFetch: a fetch of another copy's head.
func newFetch(c *replica.Replica, head api.ID) *fetch {
	own := &trunk{Replica: c}
	return &fetch{Fetch: talk.New(own, head), own: own}
}

// begin: whatever was asked for may be lost, and what was whole may be thrown away since then.
func (f *fetch) begin(copies int) {
	f.asked = nil
	f.own.look(copies)
}

// news: is something else lacking than what was asked for last? If not, the letter that came was the same as another one, or brought nothing.
func (f *fetch) news() bool {
	lacking := f.Want()
	if len(lacking) > 0 && slices.Equal(lacking, f.asked) {
		return false
	}
	f.asked = lacking
	return true
}

// trunk is a copy's records, of which whole snapshots lead nowhere: at each letter a fetch goes through all to which it comes.
type trunk struct {
	*replica.Replica
	whole map[api.ID]struct{}
}

// Get: a record's bytes; in the place of a whole snapshot those of a record that tells of nothing.
func (t *trunk) Get(id api.ID) ([]byte, api.Errno) {
	if _, whole := t.whole[id]; whole {
		return object.PutChunk(nil)
	}
	return t.Replica.Get(id)
}

// look: whole are those from which the head comes, and what is known of so many copies.
func (t *trunk) look(copies int) {
	t.whole = map[api.ID]struct{}{}
	ahead := []api.ID{t.Head()}
	for i := range copies {
		if id, e := t.Peer(Name(i)); e == api.OK {
			ahead = append(ahead, id)
		}
	}
	for len(ahead) > 0 {
		id := ahead[len(ahead)-1]
		ahead = ahead[:len(ahead)-1]
		if _, known := t.whole[id]; known {
			continue
		}
		// An error: there is no head.
		record, _ := t.Replica.Get(id)
		x, e := object.GetCommit(record)
		if e == api.OK {
			t.whole[id] = struct{}{}
			ahead = append(ahead, x.Parents...)
		}
	}
}
