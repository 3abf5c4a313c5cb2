package sorts

import (
	"slices"

	"hypercube/api"
	"hypercube/lattice"
	"hypercube/match"
)

// barred is the cost of what can't be. It is never taken: what each set's own column costs comes to less in all.
const barred = 1_000_000

// level is sets of as many dimensions each, and those above them, of one more, in lattice.Sets' order.
type level struct {
	facts
	sets, above []int
}

// levelsOf answers the sets of so many dimensions, level by level, the highest first.
func levelsOf(dims int) [][]int {
	levels := make([][]int, dims+1)
	for _, set := range lattice.Sets(dims) {
		depth := dims - lattice.Level(set)
		levels[depth] = append(levels[depth], set)
	}
	return levels
}

// edges answers how each set is made, for the least that the level may cost.
func (l level) edges() []api.Edge {
	to, _, _ := match.Assign(l.costs())
	edges := make([]api.Edge, len(to))
	for row, column := range to {
		edges[row] = l.edge(l.sets[row], column)
	}
	return edges
}

// edge tells what a set's column means.
func (l level) edge(set, column int) api.Edge {
	if column < len(l.above) {
		return api.Edge{Set: set, Parent: l.above[column], Scan: true}
	}
	return api.Edge{Set: set, Parent: l.sorted(set)}
}

// costs has a row for each set; a column for each set above, which can be scanned once, then one for each row, which sorts.
func (l level) costs() [][]int {
	table := make([][]int, len(l.sets))
	for row, set := range l.sets {
		costs := slices.Repeat([]int{barred}, len(l.above)+len(l.sets))
		for _, parent := range l.parents(set) {
			costs[slices.Index(l.above, parent)] = l.scan(parent)
		}
		costs[len(l.above)+row] = l.sort(l.sorted(set))
		table[row] = costs
	}
	return table
}
