package lattice

import (
	"iter"
	"math/bits"
)

// dimension is a type of its own: a set is a number, too.
type dimension int

// alone is the set of the one dimension.
func (d dimension) alone() int { return 1 << d }

// full is the set of so many dimensions.
func full(dims int) int { return 1<<dims - 1 }

// isSet tells whether a number is a set of so many dimensions.
func isSet(set, dims int) bool { return within(set, 0, full(dims)) }

// dimensions tells those of a set, rising.
func dimensions(set int) iter.Seq[dimension] {
	return func(yield func(dimension) bool) {
		for rest := set; rest != 0; {
			lowest := dimension(bits.TrailingZeros(uint(rest)))
			if !yield(lowest) {
				return
			}
			rest &^= lowest.alone()
		}
	}
}

// folded answers what is come to by taking item after item, in order, to what there is.
func folded[E, A any](items iter.Seq[E], first A, taking func(have A, item E) A) A {
	have := first
	for item := range items {
		have = taking(have, item)
	}
	return have
}
