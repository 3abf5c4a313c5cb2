package merge

import (
	"iter"
	"slices"
)

// kind is how items of one kind are merged: where they stand, and what two that are alike (compare tells 0) come to.
type kind[E any] struct {
	compare func(a, b E) int
	join    func(a, b E) E
}

// merge makes rising lists one, so many (2 or more) at a time, and tells in how many passes.
func (k kind[E]) merge(lists [][]E, fan int) (list []E, passes int) {
	for len(lists) > 1 {
		lists = k.pass(lists, fan)
		passes++
	}
	if len(lists) == 1 {
		list = lists[0]
	}
	return list, passes
}

func (k kind[E]) pass(lists [][]E, fan int) [][]E {
	var fewer [][]E
	for some := range slices.Chunk(lists, fan) {
		fewer = append(fewer, k.one(some))
	}
	return fewer
}

// one goes through all lists at once. Two by two would come to the same, but would copy the first ones again and again.
func (k kind[E]) one(lists [][]E) []E {
	var list []E
	for same := range k.alike(lists) {
		list = append(list, k.joined(same))
	}
	return list
}

// joined joins the first with the second, that with the third, and so on.
func (k kind[E]) joined(same []E) E {
	sum := same[0]
	for _, item := range same[1:] {
		sum = k.join(sum, item)
	}
	return sum
}

// alike tells the items of rising lists, those that are alike at once, in the lists' order.
func (k kind[E]) alike(lists [][]E) iter.Seq[[]E] {
	return func(yield func([]E) bool) {
		left := headsOf(lists, k.compare)
		for left.Len() > 0 {
			same := []E{left.take()}
			for left.Len() > 0 && k.compare(same[0], left.least()) == 0 {
				same = append(same, left.take())
			}
			if !yield(same) {
				return
			}
		}
	}
}
