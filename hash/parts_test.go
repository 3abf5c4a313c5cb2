package hash

import (
	"slices"
	"testing"

	"hypercube/api"
)

// numbered are cells of keys, each with its number as Count.
func numbered(keys ...[]int) []api.Cell {
	var cells []api.Cell
	for i, key := range keys {
		cells = append(cells, api.Cell{Key: key, Count: i})
	}
	return cells
}

// In each part cells stand in the order in which they came; parts rise.
func TestApartInOrderP702(t *testing.T) {
	var high, mixed [][]int
	for i := range 60 {
		high = append(high, []int{2, 15 - i%2, i % 16})
		mixed = append(mixed, []int{i * 7 % 16, i % 3, 0})
	}
	for _, x := range []struct {
		keys         [][]int
		position, at int
	}{
		{mixed, 0, 0}, {mixed, 1, 1}, {high, 0, 1}, {high, 1, 1}, {high, 2, 2},
	} {
		p := part{numbered(x.keys...), x.position}
		var want []api.Cell
		var ends []int
		for v := range api.MaxCard {
			for i, key := range x.keys {
				if key[x.at] == v {
					want = append(want, api.Cell{Key: key, Count: i})
				}
			}
			if len(want) > 0 && !slices.Contains(ends, len(want)) {
				ends = append(ends, len(want))
			}
		}
		var got []api.Cell
		for i, smaller := range p.apart() {
			got = append(got, smaller.cells...)
			if i >= len(ends) || len(got) != ends[i] || smaller.position != x.at+1 {
				t.Errorf("P702: part %d at %d: %v, then %d", i, x.position, smaller.cells, smaller.position)
			}
		}
		if !slices.EqualFunc(got, want, func(a, b api.Cell) bool { return a.Count == b.Count }) {
			t.Errorf("P702: parts at %d: %v, not %v", x.position, got, want)
		}
	}
}
