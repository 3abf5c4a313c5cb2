package match

import (
	"cmp"
	"iter"
	"math/bits"
)

// columns is a set of them, that are taken: the bit of value 1 is column 0. The rows take theirs in turn, so it also tells which row is next.
type columns int

func (taken columns) has(column int) bool { return taken&(1<<column) != 0 }

func (taken columns) with(column int) columns { return taken | 1<<column }

// next is the row that takes a column now.
func (taken columns) next() int { return bits.OnesCount(uint(taken)) }

// rests is, for each set of taken columns, the least total of the rows that have none yet. Who took which of them does not matter to those rows: so few numbers hold all ways.
type rests []int

// restsOf fills the sets of more columns first, as the others hang on them. Where no row is left the rest is 0.
func restsOf(cost [][]int) rests {
	rest := make(rests, 1<<width(cost))
	for taken := columns(len(rest) - 1); taken >= 0; taken-- {
		if row := taken.next(); row < len(cost) {
			rest[taken] = least(rest.offers(cost[row], taken))
		}
	}
	return rest
}

// offers tells the free columns, rising, each with the least total of the next row, if it takes that one, and of those behind it.
func (rest rests) offers(row []int, taken columns) iter.Seq2[int, int] {
	return func(yield func(column, total int) bool) {
		for column, c := range row {
			if !taken.has(column) && !yield(column, c+rest[taken.with(column)]) {
				return
			}
		}
	}
}

// first answers each row's column, in the first way of the least total.
func (rest rests) first(cost [][]int) (to []int) {
	var taken columns
rows:
	for _, row := range cost {
		for column, total := range rest.offers(row, taken) {
			if total == rest[taken] {
				to, taken = append(to, column), taken.with(column)
				continue rows
			}
		}
	}
	return to
}

// least answers the least value of all pairs; the zero value, if there are none.
func least[K any, V cmp.Ordered](pairs iter.Seq2[K, V]) (low V) {
	one := true
	for _, value := range pairs {
		if one || value < low {
			low, one = value, false
		}
	}
	return low
}
