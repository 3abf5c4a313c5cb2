package sorts

import "hypercube/lattice"

// bySet has a value for each set of so many dimensions, at first the zero value.
type bySet[V any] []V

func newBySet[V any](dims int) bySet[V] { return make(bySet[V], len(lattice.Sets(dims))) }

// listed answers the values in the order in which plans have the sets.
func (b bySet[V]) listed(dims int) (values []V) {
	for _, set := range lattice.Sets(dims) {
		values = append(values, b[set])
	}
	return values
}
