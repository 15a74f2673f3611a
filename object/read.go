package object

import (
	"towline/api"
	"towline/grain"
)

// Whatever reads gives up by panic with a code; the calls at the face catch it.

// numbered: is a value a list that begins with a number?
func numbered(v api.Value) bool {
	return v.Kind == grain.List && len(v.List) > 0 && v.List[0].Kind == grain.Uint
}

// fields: the values of a record that must be of some kind, which has so many of them.
func fields(b []byte, kind uint64, count int) []api.Value {
	v, e := grain.Decode(b)
	if e != api.OK {
		panic(e)
	}
	if !numbered(v) || len(v.List) != 1+count {
		panic(api.ErrForm)
	}
	if v.List[0].Uint != kind {
		panic(api.ErrKind)
	}
	return v.List[1:]
}

// readChunk: the chunk of a record.
func readChunk(b []byte) []byte {
	v := fields(b, KChunk, 1)
	return readText(v[0], api.MaxBlob)
}

// readBlob: the blob of a record.
func readBlob(b []byte) Blob {
	v := fields(b, KBlob, 2)
	return Blob{Chunks: readNames(v[0], MaxChunks), Size: readNumber(v[1], api.MaxBlob)}
}

// readTree: the tree of a record.
func readTree(b []byte) []Entry {
	v := fields(b, KTree, 1)
	var l []Entry
	for _, entry := range readList(v[0], MaxEntries) {
		l = append(l, readEntry(entry))
	}
	if e := checkEntries(l); e != api.OK {
		panic(e)
	}
	return l
}

// readEntry: an entry of a tree: two values are a folder's, three a file's.
func readEntry(v api.Value) Entry {
	l := readList(v, 3)
	if len(l) < 2 {
		panic(api.ErrForm)
	}
	x := Entry{Name: string(readText(l[0], api.MaxName)), ID: readName(l[1])}
	if len(l) == 2 {
		x.Folder = true
		return x
	}
	x.Stamp = readStamp(l[2])
	return x
}

// readCommit: the commit of a record.
func readCommit(b []byte) Commit {
	v := fields(b, KCommit, 5)
	x := Commit{Tree: readName(v[0]), Parents: readNames(v[1], MaxParents)}
	if !rise(x.Parents) {
		panic(api.ErrOrder)
	}
	x.Stamp = readStamp(v[2])
	x.Author = string(readText(v[3], api.MaxName))
	x.Note = string(readText(v[4], MaxNote))
	return x
}

// readNumber: a number that is at most so great.
func readNumber(v api.Value, most uint64) int {
	if v.Kind != grain.Uint {
		panic(api.ErrForm)
	}
	if v.Uint > most {
		panic(api.ErrLong)
	}
	return int(v.Uint)
}

// readStamp: a number with a point.
func readStamp(v api.Value) float64 {
	if v.Kind != grain.Float {
		panic(api.ErrForm)
	}
	return v.Float
}

// readText: at most so many bytes.
func readText(v api.Value, most int) []byte {
	if v.Kind != grain.Bytes {
		panic(api.ErrForm)
	}
	if len(v.Bytes) > most {
		panic(api.ErrLong)
	}
	return v.Bytes
}

// readName: an id.
func readName(v api.Value) api.ID {
	// Bytes of another length aren't too long, but no id at all.
	if v.Kind != grain.Bytes || len(v.Bytes) != len(api.ID{}) {
		panic(api.ErrForm)
	}
	return api.ID(v.Bytes)
}

// readNames: at most so many ids.
func readNames(v api.Value, most int) []api.ID {
	var ids []api.ID
	for _, id := range readList(v, most) {
		ids = append(ids, readName(id))
	}
	return ids
}

// readList: at most so many values.
func readList(v api.Value, most int) []api.Value {
	if v.Kind != grain.List {
		panic(api.ErrForm)
	}
	if len(v.List) > most {
		panic(api.ErrLong)
	}
	return v.List
}
