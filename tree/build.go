package tree

import (
	"bytes"
	"strings"

	"towline/api"
	"towline/object"
	"towline/path"
)

// builder makes the records of folders; it gives up by panic with a code, which the call at the face catches.
type builder struct {
	out    []Record
	places map[api.ID]int // where each record stands in out
}

// folder makes the records of the folder in which some files lie, and of those within it; its own path is the first bytes of each of theirs, up to and with the last /.
func (b *builder) folder(l []File, own int) api.ID {
	var entries []object.Entry
	for len(l) > 0 {
		name, _, within := strings.Cut(l[0].Path[own:], "/")
		if !within {
			entries = append(entries, object.Entry{Name: name, ID: l[0].ID, Stamp: l[0].Stamp})
			l = l[1:]
			continue
		}
		n := lead(l, l[0].Path[:own+len(name)])
		id := b.folder(l[:n], own+len(name)+1)
		entries = append(entries, object.Entry{Name: name, Folder: true, ID: id})
		l = l[n:]
	}
	data, e := object.PutTree(entries)
	if e != api.OK {
		panic(e)
	}
	id := object.Name(data)
	b.keep(Record{id, data})
	return id
}

// lead: how many of the first files lie under a folder.
func lead(l []File, folder string) int {
	n := 0
	for n < len(l) && path.Under(l[n].Path, folder) {
		n++
	}
	return n
}

// keep adds a record, unless it is there already.
func (b *builder) keep(r Record) {
	at, known := b.places[r.ID]
	if !known {
		b.places[r.ID] = len(b.out)
		b.out = append(b.out, r)
		return
	}
	if !bytes.Equal(b.out[at].Data, r.Data) {
		panic(api.ErrSum)
	}
}

// code: the code with which building gave up.
func code(r any) api.Errno {
	e, ok := r.(api.Errno)
	if !ok {
		// No files give up so: it would be a fault of the program, and isn't told as one of theirs.
		panic(r)
	}
	return e
}
