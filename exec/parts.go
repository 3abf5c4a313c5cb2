package exec

import "iter"

// part is items that rise by their keys, no two of one key; ahead of the position their keys are alike.
type part[E any] struct {
	items    []E
	value    func(item E, position int) int
	position int
}

// parts tells the parts in which all find place in so many slots (1 or more): the part itself, or those that it falls into by the value at its position, each of these likewise.
// hash.Group tells how many they are, not how great: but a table takes as many keys as it has slots, so the keys tell it.
func (p part[E]) parts(slots int) iter.Seq[[]E] {
	return func(yield func([]E) bool) { p.tell(slots, yield) }
}

// tell is false as soon as yield is.
func (p part[E]) tell(slots int, yield func([]E) bool) bool {
	if len(p.items) <= slots {
		return yield(p.items)
	}
	for smaller := range p.apart() {
		if !smaller.tell(slots, yield) {
			return false
		}
	}
	return true
}

// apart tells a part's parts by the value at its position, rising.
func (p part[E]) apart() iter.Seq[part[E]] {
	return func(yield func(part[E]) bool) {
		for rest := p.items; len(rest) > 0; {
			count := 1
			for count < len(rest) && p.own(rest[count]) == p.own(rest[0]) {
				count++
			}
			if !yield(part[E]{rest[:count], p.value, p.position + 1}) {
				return
			}
			rest = rest[count:]
		}
	}
}

// own is an item's value at the part's position.
func (p part[E]) own(item E) int { return p.value(item, p.position) }

// longest answers how many items the longest list has; 0, if there are no lists.
func longest[E any](lists iter.Seq[[]E]) int {
	most := 0
	for list := range lists {
		most = max(most, len(list))
	}
	return most
}
