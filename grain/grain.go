// Package grain writes values as bytes, each in just one way, and reads them.
package grain

import (
	"bytes"

	"towline/api"
	"towline/stamp"
)

// The kinds of values.
const (
	Uint = iota
	Bytes
	Float
	List
)

// The limits.
const (
	MaxDeep = 16
	MaxSize = 1 << 20
)

// Num: a number as a value.
func Num(n uint64) api.Value {
	return api.Value{Kind: Uint, Uint: n}
}

// Text: bytes as a value.
func Text(s string) api.Value {
	return api.Value{Kind: Bytes, Bytes: []byte(s)}
}

// Real: a number with a point as a value.
func Real(f float64) api.Value {
	return api.Value{Kind: Float, Float: stamp.Canon(f)}
}

// Row: a list as a value.
func Row(list ...api.Value) api.Value {
	return api.Value{Kind: List, List: copyList(list)}
}

// Encode: a value's bytes.
func Encode(v api.Value) (b []byte, e api.Errno) {
	defer func() {
		if r := recover(); r != nil {
			b, e = nil, code(r)
		}
	}()
	return write(nil, v, 0), api.OK
}

// Decode: the value of some bytes.
func Decode(b []byte) (v api.Value, e api.Errno) {
	defer func() {
		if r := recover(); r != nil {
			v, e = api.Value{}, code(r)
		}
	}()
	return read(b), api.OK
}

// code: the code with which writing or reading gave up.
func code(r any) api.Errno {
	e, ok := r.(api.Errno)
	if !ok {
		// No value and no bytes give up so: it would be a fault of the program, and isn't told as one of theirs.
		panic(r)
	}
	return e
}

// copyList copies values with all that they hold, as an answer shares no memory with what is handed in.
func copyList(list []api.Value) []api.Value {
	var out []api.Value
	for _, v := range list {
		v.Bytes = bytes.Clone(v.Bytes)
		v.List = copyList(v.List)
		out = append(out, v)
	}
	return out
}
