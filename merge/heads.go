package merge

import (
	"cmp"
	"container/heap"
)

// rest is what is left of a list: one item or more. The list is that of number at.
type rest[E any] struct {
	items []E
	at    int
}

// heads is a heap of lists by their first items; of those that are alike the earlier list's is the less.
type heads[E any] struct {
	rests   []rest[E]
	compare func(a, b E) int
}

func headsOf[E any](lists [][]E, compare func(a, b E) int) *heads[E] {
	h := &heads[E]{compare: compare}
	for at, items := range lists {
		if len(items) > 0 {
			heap.Push(h, rest[E]{items, at})
		}
	}
	return h
}

// least is the item that take takes.
func (h *heads[E]) least() E { return h.rests[0].items[0] }

func (h *heads[E]) take() E {
	item := h.least()
	first := &h.rests[0]
	first.items = first.items[1:]
	if len(first.items) > 0 {
		heap.Fix(h, 0)
	} else {
		heap.Pop(h)
	}
	return item
}

// The rest is what container/heap asks for.

func (h *heads[E]) Len() int { return len(h.rests) }

func (h *heads[E]) Less(i, j int) bool {
	a, b := h.rests[i], h.rests[j]
	return cmp.Or(h.compare(a.items[0], b.items[0]), cmp.Compare(a.at, b.at)) < 0
}

func (h *heads[E]) Swap(i, j int) { h.rests[i], h.rests[j] = h.rests[j], h.rests[i] }

func (h *heads[E]) Push(x any) { h.rests = append(h.rests, x.(rest[E])) }

func (h *heads[E]) Pop() any {
	last := len(h.rests) - 1
	r := h.rests[last]
	h.rests = h.rests[:last]
	return r
}
