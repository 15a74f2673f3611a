package pack

import (
	"bytes"

	"towline/api"
	"towline/sha"
)

// lengthSize is how many bytes of a frame's head tell its record's length; the others are the first of its Sum.
const lengthSize = 4

// place is where a record's bytes begin, and where they end.
type place struct{ from, to int }

// frame: the frame of a record with that Sum.
func frame(id api.ID, data []byte) []byte {
	out := make([]byte, head, head+len(data))
	length := len(data)
	for i := range lengthSize {
		out[lengthSize-1-i] = byte(length)
		length >>= 8
	}
	copy(out[lengthSize:], id[:])
	return append(out, data...)
}

// scan: tells of each record with which some bytes begin, one behind the other; the answer is where their frames end.
func scan(b []byte, tell func(id api.ID, at place)) int {
	end := 0
	for {
		id, size, whole := first(b[end:])
		if !whole {
			return end
		}
		at := place{end + head, end + head + size}
		tell(id, at)
		end = at.to
	}
}

// first: the Sum and the size of the record of the frame with which some bytes begin, if they begin with one.
func first(b []byte) (api.ID, int, bool) {
	if len(b) < head {
		return api.ID{}, 0, false
	}
	// Four bytes may tell more than an int can on some machines, so the bound is asked of them as they are.
	length := uint32(0)
	for _, c := range b[:lengthSize] {
		length = length<<8 | uint32(c)
	}
	rest := b[head:]
	if length > MaxRecord || int(length) > len(rest) {
		return api.ID{}, 0, false
	}
	id := sha.Sum(rest[:length])
	return id, int(length), bytes.HasPrefix(id[:], b[lengthSize:head])
}
