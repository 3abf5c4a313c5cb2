package query

import (
	"iter"

	"hypercube/api"
	"hypercube/build"
	"hypercube/cell"
	"hypercube/rec"
	"hypercube/store"
)

// factName is the facts' file.
const factName = "fact"

// cuboid is a set's cells, and which set it is.
type cuboid struct {
	set   int
	cells []api.Cell
}

// schemaOf answers the facts' schema; false, if there are no facts.
func schemaOf(s *store.Store) (api.Schema, bool) {
	b, _ := s.Read(factName) // no file is like one of no bytes: neither is facts
	schema, _, e := rec.Decode(b)
	return schema, e == api.OK
}

// committed goes through the cuboids that are there and have all dimensions of a set, rising by their own sets.
func committed(s *store.Store, schema api.Schema, set int) iter.Seq[cuboid] {
	return func(yield func(cuboid) bool) {
		for of := range 1 << len(schema.Cards) {
			if !has(of, set) {
				continue
			}
			if c, is := cuboidOf(s, schema, of); is && !yield(c) {
				return
			}
		}
	}
}

// cuboidOf answers a set's cuboid; false, if it is not there. A file that is not that set's cuboid is none: nothing is told by it.
func cuboidOf(s *store.Store, schema api.Schema, set int) (cuboid, bool) {
	b, _ := s.Read(build.Name(set))
	of, cells, is := cell.Decode(schema, b)
	return cuboid{of, cells}, is && of == set
}

// letBy goes through the cells whose values are within each filter.
func (c cuboid) letBy(filters []api.Filter) iter.Seq[api.Cell] {
	return func(yield func(api.Cell) bool) {
		for _, one := range c.cells {
			if c.isWithin(one, filters) && !yield(one) {
				return
			}
		}
	}
}

func (c cuboid) isWithin(one api.Cell, filters []api.Filter) bool {
	for _, f := range filters {
		// What is left of the key is that dimension's value alone.
		if !within(cell.Narrow(one, c.set, 1<<f.Dim).Key[0], f.Lo, f.Hi) {
			return false
		}
	}
	return true
}

// least answers the item that is least by its size, of several the first one; false, if there is none.
func least[E any](items iter.Seq[E], size func(E) int) (E, bool) {
	var best E
	is := false
	for item := range items {
		if !is || size(item) < size(best) {
			best, is = item, true
		}
	}
	return best, is
}
