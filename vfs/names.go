package vfs

// file is bytes of which the first are durable, whatever name it has.
type file struct {
	data    []byte
	durable int
}

// cut: only the first bytes are left, and durable. No room is left behind them: what is cut off isn't the file's any more.
func (f *file) cut(size int) {
	f.data = f.data[:size:size]
	f.durable = size
}

// names tells which file has which name.
type names map[string]*file

// change is a change of names: one is gone, and a file has one. No file has the empty name, so that it stands for none.
type change struct {
	gone, come string
	file       *file
}

// do: does a change, whatever other file had the name.
func (n names) do(c change) {
	delete(n, c.gone)
	if c.file != nil {
		n[c.come] = c.file
	}
}

// size: how many bytes the file of a name has; none, if there is no such file.
func (n names) size(name string) int {
	if f := n[name]; f != nil {
		return len(f.data)
	}
	return 0
}
