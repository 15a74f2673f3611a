package tree

import (
	"strconv"
	"testing"

	"towline/api"
	"towline/object"
)

// P11.2: what no files that Check takes come to is asked of the builder itself: trees that can't be written, and records that are unlike and have one id.

// givesUp: the code with which a builder gives up; OK, if it doesn't.
func givesUp(t *testing.T, work func(b *builder)) (e api.Errno) {
	t.Helper()
	defer func() {
		if r := recover(); r != nil {
			e = code(r)
		}
	}()
	work(&builder{places: map[api.ID]int{}})
	return api.OK
}

func TestBuilderGivesUpWithPutTreesError(t *testing.T) {
	many := make([]File, object.MaxEntries+1)
	for i := range many {
		many[i].Path = strconv.Itoa(10000 + i)
	}
	for i, c := range []struct {
		files []File
		want  api.Errno
	}{
		{many[:object.MaxEntries], api.OK}, {many, api.ErrLong},
		{[]File{{Path: "b"}, {Path: "a"}}, api.ErrOrder}, {[]File{{Path: "a"}, {Path: "a/b"}}, api.ErrOrder},
		{[]File{{Path: "x/b"}, {Path: "x/a"}}, api.ErrOrder}, {[]File{{Path: "a/b"}, {Path: "b"}, {Path: "a/c"}}, api.ErrOrder},
		{[]File{{Path: ""}}, api.ErrPath}, {[]File{{Path: "a/."}}, api.ErrPath},
		// The first that is met: that of the folder within.
		{[]File{{Path: "b"}, {Path: "a/."}}, api.ErrPath},
	} {
		if e := givesUp(t, func(b *builder) { b.folder(c.files, 0) }); e != c.want {
			t.Errorf("list %d: %v, not %v", i, e, c.want)
		}
	}
}

func TestBuilderGivesUpWithOneIDOfUnlikeRecords(t *testing.T) {
	twice := func(x, y Record) func(b *builder) {
		return func(b *builder) {
			b.keep(x)
			b.keep(y)
			if x.ID == y.ID && len(b.out) != 1 || x.ID != y.ID && len(b.out) != 2 {
				t.Errorf("%v and %v: %v", x, y, b.out)
			}
		}
	}
	a, b := api.ID{1}, api.ID{2}
	for _, c := range []struct {
		x, y Record
		want api.Errno
	}{
		{Record{a, []byte("x")}, Record{b, []byte("y")}, api.OK}, {Record{a, []byte("x")}, Record{b, []byte("x")}, api.OK},
		{Record{a, []byte("x")}, Record{a, []byte("x")}, api.OK},
		{Record{a, []byte("x")}, Record{a, []byte("y")}, api.ErrSum}, {Record{a, []byte("x")}, Record{a, []byte("xx")}, api.ErrSum},
	} {
		if e := givesUp(t, twice(c.x, c.y)); e != c.want {
			t.Errorf("%v and %v: %v, not %v", c.x, c.y, e, c.want)
		}
	}
}
