package object

import (
	"bytes"

	"towline/api"
	"towline/grain"
	"towline/path"
)

// record: the bytes of a kind and its values.
func record(kind uint64, values ...api.Value) ([]byte, api.Errno) {
	list := append([]api.Value{grain.Num(kind)}, values...)
	return grain.Encode(grain.Row(list...))
}

// text: bytes as a value.
func text(b []byte) api.Value {
	return grain.Text(string(b))
}

// name: an id as a value.
func name(id api.ID) api.Value {
	return text(id[:])
}

// names: ids as a value.
func names(ids []api.ID) api.Value {
	var list []api.Value
	for _, id := range ids {
		list = append(list, name(id))
	}
	return grain.Row(list...)
}

// entries: a tree's entries as a value.
func entries(l []Entry) api.Value {
	var list []api.Value
	for _, x := range l {
		entry := []api.Value{grain.Text(x.Name), name(x.ID)}
		if !x.Folder {
			entry = append(entry, grain.Real(x.Stamp))
		}
		list = append(list, grain.Row(entry...))
	}
	return grain.Row(list...)
}

// checkEntries: what is wrong with the names of a tree's entries, and with their order.
func checkEntries(l []Entry) api.Errno {
	for i, x := range l {
		if !path.Name(x.Name) {
			return api.ErrPath
		}
		if i > 0 && x.Name <= l[i-1].Name {
			return api.ErrOrder
		}
	}
	return api.OK
}

// rise: is each id above the one ahead of it?
func rise(ids []api.ID) bool {
	for i := 1; i < len(ids); i++ {
		if bytes.Compare(ids[i-1][:], ids[i][:]) >= 0 {
			return false
		}
	}
	return true
}
