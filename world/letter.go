package world

import (
	"bytes"

	"towline/api"
	"towline/grain"
	"towline/sha"
)

// The kinds of letters.
const (
	nothing = iota // what was spoilt on its way
	ask            // for one's head
	tell           // the head
	want           // the ids of records
	give           // these records
)

// letter is bytes on their way from a copy to another one.
type letter struct {
	from, to int
	text     []byte
	spoilt   bool
}

// sealed: a letter's bytes: ahead of what it says stands the Sum of that, so that a change on its way shows.
func sealed(kind uint64, parts ...[]byte) []byte {
	list := []api.Value{grain.Num(kind)}
	for _, part := range parts {
		list = append(list, grain.Text(string(part)))
	}
	// No letter is too long: what Serve gives is below half of that.
	said, _ := grain.Encode(grain.Row(list...))
	sum := sha.Sum(said)
	return append(sum[:], said...)
}

// opened: what a letter says.
func opened(text []byte) (uint64, [][]byte) {
	size := min(len(text), len(api.ID{}))
	said := text[size:]
	if sum := sha.Sum(said); !bytes.Equal(sum[:], text[:size]) {
		return nothing, nil
	}
	v, e := grain.Decode(said)
	if e != api.OK || len(v.List) == 0 {
		return nothing, nil
	}
	var parts [][]byte
	for _, part := range v.List[1:] {
		parts = append(parts, part.Bytes)
	}
	return v.List[0].Uint, parts
}

// idsOf: parts of a letter as ids.
func idsOf(parts [][]byte) []api.ID {
	var ids []api.ID
	for _, part := range parts {
		var id api.ID
		copy(id[:], part)
		ids = append(ids, id)
	}
	return ids
}

// partsOf: ids as parts of a letter.
func partsOf(ids []api.ID) [][]byte {
	var parts [][]byte
	for _, id := range ids {
		parts = append(parts, id[:])
	}
	return parts
}
