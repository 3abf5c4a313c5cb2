package cell

import (
	"iter"
	"math/bits"
)

// full is the set of so many dimensions.
func full(dims int) int { return 1<<dims - 1 }

// dimensions tells those of a set, rising.
func dimensions(set int) iter.Seq[int] {
	return func(yield func(int) bool) {
		for rest := uint(set); rest != 0; rest &= rest - 1 {
			if !yield(bits.TrailingZeros(rest)) {
				return
			}
		}
	}
}

// place is where a dimension stands among those of a set that has it: behind all that are lower.
func place(set, dimension int) int {
	return bits.OnesCount(uint(set & full(dimension)))
}

// values answers those of to's dimensions; list has one for each dimension of from, and to is within from.
func values(list []int, from, to int) []int {
	var out []int
	for d := range dimensions(to) {
		out = append(out, list[place(from, d)])
	}
	return out
}
