package runs

import "iter"

// pieces deals items out, in order, into pieces of at most so many keys (1 or more). An item whose key the piece under way has is joined to that one, behind it; a piece goes out only when another key has no room in it.
func pieces[K comparable, E any](items iter.Seq2[K, E], most int, join func(a, b E) E) iter.Seq[[]E] {
	return func(yield func([]E) bool) {
		var held []E
		at := map[K]int{}
		for key, item := range items {
			if i, is := at[key]; is {
				held[i] = join(held[i], item)
				continue
			}
			if len(held) == most {
				if !yield(held) {
					return
				}
				held = nil // the piece is another's now
				clear(at)
			}
			at[key] = len(held)
			held = append(held, item)
		}
		if len(held) > 0 {
			yield(held)
		}
	}
}

// neighbours tells each item with the next one.
func neighbours[E any](list []E) iter.Seq2[E, E] {
	return func(yield func(E, E) bool) {
		for i := 1; i < len(list); i++ {
			if !yield(list[i-1], list[i]) {
				return
			}
		}
	}
}
