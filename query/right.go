package query

import "hypercube/api"

// isRight tells whether a query may be asked of facts of a schema.
func isRight(s api.Schema, q api.Query) bool {
	if !within(q.Set, 0, 1<<len(s.Cards)-1) {
		return false
	}
	filtered := 0
	for _, f := range q.Filters {
		if !isFilter(s, f) || has(filtered, 1<<f.Dim) {
			return false
		}
		filtered |= 1 << f.Dim
	}
	return true
}

// isFilter tells whether a filter is of a dimension that there is, and of its values.
func isFilter(s api.Schema, f api.Filter) bool {
	return within(f.Dim, 0, len(s.Cards)-1) && within(f.Lo, 0, f.Hi) && f.Hi < s.Cards[f.Dim]
}

// needed is the set of all dimensions that the query speaks of.
func needed(q api.Query) int {
	set := q.Set
	for _, f := range q.Filters {
		set |= 1 << f.Dim
	}
	return set
}

// has tells whether a set has all dimensions of another one.
func has(set, other int) bool { return other&^set == 0 }

func within(n, low, high int) bool { return low <= n && n <= high }
