package grain

import (
	"math"

	"towline/api"
	"towline/stamp"
)

// write appends a value that lies within so many lists; it gives up by panic with a code.
func write(out []byte, v api.Value, around int) []byte {
	if around >= MaxDeep {
		panic(api.ErrDeep)
	}
	switch v.Kind {
	case Uint:
		out = writeHead(out, Uint, v.Uint)
	case Bytes:
		out = writeBytes(out, v.Bytes)
	case Float:
		out = writeFloat(out, v.Float)
	case List:
		out = writeHead(out, List, uint64(len(v.List)))
		for _, inner := range v.List {
			out = write(out, inner, around+1)
		}
	default:
		panic(api.ErrTag)
	}
	if len(out) > MaxSize {
		panic(api.ErrLong)
	}
	return out
}

// writeHead appends the head of a kind and a number.
func writeHead(out []byte, kind byte, n uint64) []byte {
	part := byte(n%32)*4 + kind
	for n /= 32; n > 0; n /= 128 {
		out = append(out, part+128)
		part = byte(n % 128)
	}
	return append(out, part)
}

// writeBytes appends bytes with their head.
func writeBytes(out, b []byte) []byte {
	// The value would be too long at its end: so many bytes needn't be copied for that.
	if len(b) > MaxSize {
		panic(api.ErrLong)
	}
	out = writeHead(out, Bytes, uint64(len(b)))
	return append(out, b...)
}

// writeFloat appends a number with a point, with its head.
func writeFloat(out []byte, f float64) []byte {
	out = writeHead(out, Float, 0)
	bits := math.Float64bits(stamp.Canon(f))
	for i := range floatSize {
		out = append(out, byte(bits>>(8*(floatSize-1-i))))
	}
	return out
}
