package checkout

import (
	"bytes"
	"slices"
	"strings"

	"towline/api"
	"towline/grain"
	"towline/path"
	"towline/snap"
	"towline/store"
	"towline/vfs"
)

// The names: each file of the working tree lies in a folder, under its own path.
const (
	folder = "work/"
	todo   = "todo"        // tells to which snapshot the working tree is being turned
	beside = todo + ".new" // what is written, until it is whole
)

// laid is a file as it lies in the file system.
type laid struct {
	name string
	text []byte
}

// place: the name of the file in which one of the working tree lies.
func place(p string) string { return folder + p }

// paths: those of the working tree's files, in order.
func paths(fs *vfs.FS) []string {
	var out []string
	for _, name := range fs.List() {
		if p, within := strings.CutPrefix(name, folder); within {
			out = append(out, p)
		}
	}
	slices.SortFunc(out, path.Compare)
	return out
}

// check: may there be such a file, whatever others there are?
func check(f snap.File) api.Errno {
	if e := path.Check(f.Path); e != api.OK {
		return e
	}
	if e := path.Check(place(f.Path)); e != api.OK {
		return e
	}
	if len(f.Data) > api.MaxBlob {
		return api.ErrLong
	}
	return api.OK
}

// lay: a file as it is to lie there: its time, and its bytes.
func lay(f snap.File) (laid, api.Errno) {
	text, e := grain.Encode(grain.Row(grain.Real(f.Stamp), grain.Text(string(f.Data))))
	return laid{place(f.Path), text}, e
}

// read: a file of the working tree.
func read(fs *vfs.FS, p string) (snap.File, api.Errno) {
	text, e := fs.Read(place(p))
	if e != api.OK {
		return snap.File{}, e
	}
	v, e := grain.Decode(text)
	if e != api.OK {
		return snap.File{}, e
	}
	isA := func(at, kind int) bool { return at < len(v.List) && v.List[at].Kind == kind }
	if !isA(0, grain.Float) || !isA(1, grain.Bytes) {
		return snap.File{}, api.ErrForm
	}
	return snap.File{Path: p, Data: v.List[1].Bytes, Stamp: v.List[0].Float}, api.OK
}

// load: the files of a snapshot, as they are to lie there.
func load(s snap.Shelf, root api.ID) ([]laid, api.Errno) {
	files, e := snap.Load(s, root)
	if e != api.OK {
		return nil, e
	}
	var out []laid
	for _, f := range files {
		if e := check(f); e != api.OK {
			return nil, e
		}
		x, e := lay(f)
		if e != api.OK {
			return nil, e
		}
		out = append(out, x)
	}
	return out, api.OK
}

// size: how many bytes files have together.
func size(files []laid) int {
	n := 0
	for _, x := range files {
		n += len(x.text)
	}
	return n
}

// turn: the working tree has just these files, and nothing is left to do.
func turn(fs *vfs.FS, files []laid) api.Errno {
	for _, x := range files {
		// What lies there already isn't written once more: behind a crash there may be no room for that.
		if text, e := fs.Read(x.name); e == api.OK && bytes.Equal(text, x.text) {
			continue
		}
		if e := store.Replace(fs, x.name, beside, x.text); e != api.OK {
			return e
		}
	}
	var gone []string
	for _, p := range paths(fs) {
		isThis := func(x laid) bool { return x.name == place(p) }
		if !slices.ContainsFunc(files, isThis) {
			gone = append(gone, place(p))
		}
	}
	// A crash keeps the first changes of names: what tells of the snapshot goes last.
	return drop(fs, append(gone, todo)...)
}

// drop: files are gone, durably, one behind the other.
func drop(fs *vfs.FS, names ...string) api.Errno {
	for _, name := range names {
		if e := fs.Remove(name); e != api.OK {
			return e
		}
	}
	return fs.Flush()
}
