package build

import (
	"slices"
	"strconv"
	"testing"

	"hypercube/api"
	"hypercube/store"
)

// A file of any type tells what its bytes hold.
func TestReadP1301(t *testing.T) {
	x := store.New(99)
	f := file[int]{"n", func(b []byte) (int, bool) {
		n, err := strconv.Atoi(string(b))
		return n + 5, err == nil
	}}
	for _, w := range []struct {
		bytes string
		want  int
		e     api.Errno
	}{{"", 0, api.Missing}, {"7", 12, api.OK}, {"-5", 0, api.OK}, {"x", 0, api.BadInput}} {
		if w.e != api.Missing {
			x.Write("n", []byte(w.bytes))
		}
		if got, e := f.read(x); got != w.want || e != w.e {
			t.Errorf("P1301: %q: %v, %v", w.bytes, got, e)
		}
	}
}

// A set's file has that set's cells, not another's.
func TestCuboidFileP1302(t *testing.T) {
	x := store.New(99)
	s := api.Schema{Cards: []int{2, 2}}
	x.Write("c1", []byte("\x01\x00\x01\x01\x00\x09"))
	x.Write("c2", []byte("\x01\x00\x01\x01\x00\x09"))
	if cells, e := cuboidFile(s, 1).read(x); e != api.OK || len(cells) != 1 || cells[0].Count != 9 {
		t.Errorf("P1302: %v, %v", cells, e)
	}
	if cells, e := cuboidFile(s, 2).read(x); e != api.BadInput || cells != nil {
		t.Errorf("P1302: %v, %v", cells, e)
	}
	if cells, e := cuboidFile(s, 3).read(x); e != api.Missing || cells != nil {
		t.Errorf("P1302: %v, %v", cells, e)
	}
}

// The first item is all that is asked for.
func TestFirstP1302(t *testing.T) {
	asked := 0
	count := func(yield func(int) bool) {
		for n := range 3 {
			asked++
			if !yield(n + 7) {
				return
			}
		}
	}
	if n, is := first(count); n != 7 || !is || asked != 1 {
		t.Errorf("P1302: %d, %v, %d asked", n, is, asked)
	}
	if text, is := first(slices.Values([]string{})); text != "" || is {
		t.Errorf("P1302: %q, %v", text, is)
	}
}
