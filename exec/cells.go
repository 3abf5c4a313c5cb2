package exec

import (
	"math/bits"

	"hypercube/api"
	"hypercube/cell"
)

// narrowed are cells of a parent as those of a set, one for each, in order.
func narrowed(from []api.Cell, parent, set int) []api.Cell {
	var cells []api.Cell
	for _, c := range from {
		cells = append(cells, cell.Narrow(c, parent, set))
	}
	return cells
}

// areSets tells whether parent is a set of dimensions, and set one within it.
func areSets(parent, set int) bool {
	return within(parent, 0, 1<<api.MaxDims-1) && set&^parent == 0
}

// fit tells whether cells may be those of a set, together.
func fit(cells []api.Cell, set int) bool {
	if len(cells) > api.MaxRows {
		return false
	}
	for _, c := range cells {
		if len(c.Key) != bits.OnesCount(uint(set)) || !inBounds(c.Key) || !has(c, len(cells[0].Sum)) {
			return false
		}
	}
	return true
}

// inBounds tells whether each value of a key is one that a dimension can have.
func inBounds(key []int) bool {
	for _, v := range key {
		if !within(v, 0, api.MaxCard-1) {
			return false
		}
	}
	return true
}

// has tells whether a cell has a Sum, a Min, a Max of so many measures each.
func has(c api.Cell, measures int) bool {
	return len(c.Sum) == measures && len(c.Min) == measures && len(c.Max) == measures
}

func within(n, low, high int) bool { return low <= n && n <= high }
