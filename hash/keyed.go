package hash

import (
	"slices"

	"hypercube/api"
	"hypercube/cell"
)

// keyed is a cell as a table keeps it.
type keyed api.Cell

// The numbers by which a key's place is told.
const (
	start   = 7
	factor  = 31
	modulus = 1000003
)

// place is from 0 on for keys within bounds alone.
func (k keyed) place() int {
	h := start
	for _, v := range k.Key {
		h = (factor*h + v + 1) % modulus
	}
	return h
}

func (k keyed) like(other keyed) bool { return cell.Less(k.Key, other.Key) == 0 }

func (k keyed) with(later keyed) keyed { return keyed(cell.Join(api.Cell(k), api.Cell(later))) }

// cloned is deep: what is handed in is not kept, what is kept not answered.
func cloned(k keyed) keyed {
	return keyed{
		Key:   slices.Clone(k.Key),
		Count: k.Count,
		Sum:   slices.Clone(k.Sum),
		Min:   slices.Clone(k.Min),
		Max:   slices.Clone(k.Max),
	}
}

// shape is what cells of one table have in common.
type shape struct{ dims, measures int }

func shapeOf(c api.Cell) shape { return shape{len(c.Key), len(c.Sum)} }

// proper tells whether a cell may be kept at all.
func proper(c api.Cell) bool {
	measures := len(c.Sum)
	return inBounds(c.Key) && len(c.Min) == measures && len(c.Max) == measures
}

// inBounds tells whether each value of a key is one that a dimension can have.
func inBounds(key []int) bool {
	for _, v := range key {
		if !within(v, 0, api.MaxCard-1) {
			return false
		}
	}
	return true
}

// fit tells whether cells may be kept together.
func fit(cells []api.Cell) bool {
	for _, c := range cells {
		if !proper(c) || shapeOf(c) != shapeOf(cells[0]) {
			return false
		}
	}
	return true
}

func within(n, low, high int) bool { return low <= n && n <= high }
