package sorts

import (
	"cmp"
	"slices"

	"hypercube/api"
	"hypercube/lattice"
)

// price is what it costs to make a cuboid of a parent.
type price func(parent int) int

// cheapest answers the parent of the least price, of several the first one. There must be one.
func (p price) cheapest(parents []int) int { return slices.MinFunc(parents, p.compare) }

func (p price) compare(a, b int) int { return cmp.Compare(p(a), p(b)) }

// facts are what both prices hang on.
type facts struct {
	schema api.Schema
	rows   int
}

func (f facts) scan(parent int) int { return lattice.Scan(f.schema, f.rows, parent) }

func (f facts) sort(parent int) int { return lattice.Sort(f.schema, f.rows, parent) }

func (f facts) parents(set int) []int { return lattice.Parents(set, len(f.schema.Cards)) }

// sorted answers the parent that a set is made of where it must be sorted for it.
func (f facts) sorted(set int) int { return price(f.sort).cheapest(f.parents(set)) }

// priceOf asks for an edge that has a parent.
func (f facts) priceOf(e api.Edge) price {
	if e.Scan {
		return f.scan
	}
	return f.sort
}
