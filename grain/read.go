package grain

import (
	"bytes"
	"math"

	"towline/api"
	"towline/stamp"
)

// floatSize is how many bytes a number with a point has behind its head.
const floatSize = 8

// reader is the bytes that aren't read yet.
type reader struct {
	rest []byte
}

// read: the value of some bytes; it gives up by panic with a code.
func read(b []byte) api.Value {
	if len(b) > MaxSize {
		panic(api.ErrLong)
	}
	r := reader{rest: b}
	v := r.value(0)
	if len(r.rest) > 0 {
		panic(api.ErrRest)
	}
	return v
}

// value reads a value that lies within so many lists.
func (r *reader) value(around int) api.Value {
	if around >= MaxDeep {
		panic(api.ErrDeep)
	}
	kind, n := r.head()
	switch kind {
	case Uint:
		return api.Value{Kind: Uint, Uint: n}
	case Bytes:
		return api.Value{Kind: Bytes, Bytes: bytes.Clone(r.take(n))}
	case Float:
		return api.Value{Kind: Float, Float: r.float(n)}
	}
	return api.Value{Kind: List, List: r.list(n, around)}
}

// head reads a head: a kind and a number.
func (r *reader) head() (kind byte, n uint64) {
	first := r.take(1)[0]
	kind = first % 4
	n = uint64(first % 128 / 4)
	more := first >= 128
	for shift := 5; more; shift += 7 {
		part := r.take(1)[0]
		// The last part of 64 bits stands at the shift 61: there is room for three bits.
		if part == 0 || shift == 61 && part > 7 {
			panic(api.ErrWide)
		}
		n |= uint64(part%128) << shift
		more = part >= 128
	}
	return kind, n
}

// float reads the bytes of a number with a point, in whose head stands n.
func (r *reader) float(n uint64) float64 {
	var bits uint64
	for _, b := range r.take(floatSize) {
		bits = bits<<8 | uint64(b)
	}
	f := stamp.Canon(math.Float64frombits(bits))
	if n != 0 || math.Float64bits(f) != bits {
		panic(api.ErrTag)
	}
	return f
}

// list reads so many values, which lie within one list more.
func (r *reader) list(n uint64, around int) []api.Value {
	// Nothing says that there are as many bytes as the head's number asks for: the list grows with what is read.
	var out []api.Value
	for range n {
		out = append(out, r.value(around+1))
	}
	return out
}

// take cuts off the next n bytes.
func (r *reader) take(n uint64) []byte {
	if n > uint64(len(r.rest)) {
		panic(api.ErrShort)
	}
	out := r.rest[:n]
	r.rest = r.rest[n:]
	return out
}
