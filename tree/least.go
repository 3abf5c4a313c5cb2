package tree

import (
	"cmp"
	"iter"
)

// least answers the item of the least size, of several the first one; none, if there are no items.
func least[E any, S cmp.Ordered](items iter.Seq[E], size func(E) S, none E) E {
	best, found := none, false
	var lowest S
	for item := range items {
		if s := size(item); !found || s < lowest {
			best, lowest, found = item, s, true
		}
	}
	return best
}
