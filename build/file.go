package build

import (
	"hypercube/api"
	"hypercube/cell"
	"hypercube/rec"
	"hypercube/store"
)

// file is a name, and how what it holds is told from its bytes; false, if they are none of its kind.
type file[T any] struct {
	name   string
	decode func(b []byte) (T, bool)
}

// read answers what the file holds.
func (f file[T]) read(s *store.Store) (T, api.Errno) {
	var none T
	b, is := s.Read(f.name)
	if !is {
		return none, api.Missing
	}
	holds, is := f.decode(b)
	if !is {
		return none, api.BadInput
	}
	return holds, api.OK
}

type facts struct {
	schema api.Schema
	rows   []api.Row
}

func factFile() file[facts] {
	return file[facts]{factName, func(b []byte) (facts, bool) {
		s, rows, e := rec.Decode(b)
		return facts{s, rows}, e == api.OK
	}}
}

// cuboidFile is where a set's cells are, of facts of a schema.
func cuboidFile(s api.Schema, set int) file[[]api.Cell] {
	return file[[]api.Cell]{Name(set), func(b []byte) ([]api.Cell, bool) {
		of, cells, is := cell.Decode(s, b)
		return cells, is && of == set
	}}
}
