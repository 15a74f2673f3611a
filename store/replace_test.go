package store_test

import (
	"slices"
	"strconv"
	"strings"
	"testing"

	"towline/api"
	"towline/store"
	"towline/vfs"
)

// disk: a file system with room for so many bytes.
func disk(t *testing.T, room int) *vfs.FS {
	t.Helper()
	fs, e := vfs.New(room)
	if e != api.OK {
		t.Fatalf("vfs.New: %v", e)
	}
	return fs
}

// lay: a file with these bytes, durable.
func lay(t *testing.T, fs *vfs.FS, name, text string) {
	t.Helper()
	if fs.Create(name) != api.OK || fs.Append(name, []byte(text)) != api.OK || fs.Sync(name) != api.OK || fs.Flush() != api.OK {
		t.Fatalf("no file %s with %d bytes", name, len(text))
	}
}

// leave: just so many bytes are left.
func leave(t *testing.T, fs *vfs.FS, left int) {
	t.Helper()
	lay(t, fs, "other", strings.Repeat("o", fs.Left()-left))
}

// show: all that a file system tells.
func show(fs *vfs.FS) string {
	text := strconv.Itoa(fs.Steps()) + " steps"
	for _, name := range fs.List() {
		b, _ := fs.Read(name)
		text += " " + name + "=" + strconv.Quote(string(b))
	}
	return text
}

// is: the file has these bytes.
func is(t *testing.T, fs *vfs.FS, name, want string) {
	t.Helper()
	if b, e := fs.Read(name); e != api.OK || string(b) != want {
		t.Errorf("%s: %q %v, not %q", name, b, e, want)
	}
}

// P16.1

func TestReplace(t *testing.T) {
	fs := disk(t, 100)
	for _, text := range []string{"one", "", "", "longer than that", "\x00\n\xff", "x"} {
		if e := store.Replace(fs, "a/f", "g", []byte(text)); e != api.OK {
			t.Fatalf("Replace: %v", e)
		}
		is(t, fs, "a/f", text)
		if l := fs.List(); !slices.Equal(l, []string{"a/f"}) {
			t.Errorf("files %q", l)
		}
		fs.Crash(0, 0)
		is(t, fs, "a/f", text)
	}
}

func TestReplaceLeavesOtherFilesAlone(t *testing.T) {
	fs := disk(t, 100)
	lay(t, fs, "f", "old")
	lay(t, fs, "f.new.new", "other")
	lay(t, fs, "pack", "another")
	if e := store.Replace(fs, "f", "f.new", []byte("new")); e != api.OK {
		t.Fatalf("Replace: %v", e)
	}
	fs.Crash(0, 0)
	is(t, fs, "f", "new")
	is(t, fs, "f.new.new", "other")
	is(t, fs, "pack", "another")
}

func TestReplaceNeedsRoomBesideTheOldOne(t *testing.T) {
	for left := range 12 {
		for size := range 12 {
			for _, leftover := range []int{-1, 0, 1, 5} {
				fs := disk(t, 100)
				lay(t, fs, "f", "old one")
				if leftover >= 0 {
					lay(t, fs, "g", strings.Repeat("g", leftover))
				}
				leave(t, fs, left)
				want := api.OK
				if size > left+max(leftover, 0) {
					want = api.ErrFull
				}
				was := show(fs)
				text := strings.Repeat("n", size)
				e := store.Replace(fs, "f", "g", []byte(text))
				if e != want {
					t.Errorf("%d bytes, %d left, %d beside: %v, not %v", size, left, leftover, e, want)
				}
				if e == api.OK {
					fs.Crash(0, 0)
					is(t, fs, "f", text)
				} else if now := show(fs); now != was {
					t.Errorf("%s became %s", was, now)
				}
			}
		}
	}
}

func TestReplaceHasNoRoomAheadOfNoPower(t *testing.T) {
	fs := disk(t, 10)
	lay(t, fs, "f", "old one")
	fs.Stop(0)
	if e := store.Replace(fs, "f", "g", []byte("1234")); e != api.ErrFull {
		t.Errorf("Replace: %v", e)
	}
	if e := store.Replace(fs, "f", "g", []byte("123")); e != api.ErrCut {
		t.Errorf("Replace: %v", e)
	}
	is(t, fs, "f", "old one")
}

// before: files ahead of a Replace: f isn't there (an empty text), or has that text behind its x; a file beside is left as it is told.
type before struct{ old, beside string }

// laid: such a file system.
func (b before) laid(t *testing.T) *vfs.FS {
	fs := disk(t, 1000)
	if b.old != "" {
		lay(t, fs, "f", b.old)
	}
	switch b.beside {
	case "durable":
		lay(t, fs, "g", "left by a crash")
	case "torn":
		lay(t, fs, "g", "")
		fs.Append("g", []byte("not durable"))
	case "unnamed":
		fs.Create("g")
		fs.Append("g", []byte("not durable"))
	case "renamed":
		lay(t, fs, "h", "of another name")
		fs.Rename("h", "g")
	}
	return fs
}

// oldOrNew: f is as it was, or has the new text.
func (b before) oldOrNew(t *testing.T, fs *vfs.FS, text string) string {
	t.Helper()
	got, e := fs.Read("f")
	if e == api.ErrMissing && b.old == "" || e == api.OK && b.old != "" && string(got) == b.old || e == api.OK && string(got) == text {
		return string(got)
	}
	t.Fatalf("%+v: f is %q %v, neither old nor %q", b, got, e, text)
	return ""
}

func TestReplaceCutAnywhere(t *testing.T) {
	for _, old := range []string{"", "old", "an old one that is longer"} {
		for _, left := range []string{"", "durable", "torn", "unnamed", "renamed"} {
			for _, text := range []string{"", "n", "a new text"} {
				cutReplace(t, before{old, left}, text)
			}
		}
	}
}

// cutReplace: the power goes at each step of a Replace, and a crash keeps as much as it may.
func cutReplace(t *testing.T, b before, text string) {
	t.Helper()
	done := false
	for stop := 0; !done; stop++ {
		for acts := range 6 {
			for n := range 12 {
				fs := b.laid(t)
				fs.Stop(stop)
				e := store.Replace(fs, "f", "g", []byte(text))
				if e != api.OK && e != api.ErrCut {
					t.Fatalf("%+v: Replace: %v", b, e)
				}
				b.oldOrNew(t, fs, text)
				fs.Crash(acts, n)
				got := b.oldOrNew(t, fs, text)
				done = e == api.OK
				if done && got != text {
					t.Fatalf("%+v: Replace is done, and f is %q", b, got)
				}
				again := "again, whatever was left"
				if e := store.Replace(fs, "f", "g", []byte(again)); e != api.OK {
					t.Fatalf("%+v: Replace behind a crash: %v", b, e)
				}
				fs.Crash(0, 0)
				is(t, fs, "f", again)
			}
		}
	}
}

// P1

func TestReplaceOfWrongNamesEnds(t *testing.T) {
	names := []string{"", "f", "g", ".", "a//b", "/", strings.Repeat("n", 65), strings.Repeat("n/", 200), "\x00", "\xff"}
	for _, name := range names {
		for _, beside := range names {
			fs := disk(t, 100)
			lay(t, fs, "f", "old")
			store.Replace(fs, name, beside, nil)
			store.Replace(fs, name, beside, []byte("new"))
			fs.Stop(0)
			store.Replace(fs, name, beside, []byte("new"))
		}
	}
}

// P2

func TestReplaceKeepsNothing(t *testing.T) {
	fs := disk(t, 100)
	text := []byte("new room")[:3]
	if e := store.Replace(fs, "f", "g", text); e != api.OK {
		t.Fatalf("Replace: %v", e)
	}
	if string(text[:8]) != "new room" {
		t.Errorf("what is handed in became %q", text[:8])
	}
	over(text)
	is(t, fs, "f", "new")
	fs.Append("f", []byte("er"))
	is(t, fs, "f", "newer")
}

// over: writes over a list and its spare room.
func over(b []byte) {
	b = b[:cap(b)]
	for i := range b {
		b[i] ^= 0xff
	}
}
