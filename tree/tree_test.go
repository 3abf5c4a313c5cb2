package tree_test

import (
	"math"
	"math/rand"
	"slices"
	"testing"

	"hypercube/api"
	"hypercube/tree"
)

// setsOf has the sets in a plan's order, by hand.
var setsOf = [5][]int{
	1: {1, 0},
	2: {3, 1, 2, 0},
	3: {7, 3, 5, 6, 1, 2, 4, 0},
	4: {15, 7, 11, 13, 14, 3, 5, 6, 9, 10, 12, 1, 2, 4, 8, 0},
}

// of answers edges of the sets of so many dimensions, each of its parent.
func of(dims int, parents ...int) []api.Edge {
	plan := make([]api.Edge, len(setsOf[dims]))
	for i, set := range setsOf[dims] {
		plan[i] = api.Edge{Set: set, Parent: parents[i]}
	}
	return plan
}

func sizeByHand(s api.Schema, rows, set int) int {
	keys := 1
	for d, card := range s.Cards {
		if set>>d%2 == 1 {
			keys *= card
		}
	}
	return min(keys, rows)
}

// parentByHand goes from the greatest set down: what is no greater takes the place of what there was.
func parentByHand(s api.Schema, rows, set int) int {
	best := -1
	for d := len(s.Cards) - 1; d >= 0; d-- {
		if set>>d%2 == 1 {
			continue
		}
		parent := set + 1<<d
		if best < 0 || sizeByHand(s, rows, parent) <= sizeByHand(s, rows, best) {
			best = parent
		}
	}
	return best
}

func planByHand(s api.Schema, rows int) []api.Edge {
	var parents []int
	for _, set := range setsOf[len(s.Cards)] {
		parents = append(parents, parentByHand(s, rows, set))
	}
	return of(len(s.Cards), parents...)
}

func mustPlan(t *testing.T, s api.Schema, rows int, want ...api.Edge) {
	t.Helper()
	if got := tree.Plan(s, rows); !slices.Equal(got, want) {
		t.Errorf("P1101: Plan of %v, %d rows: %v, not %v", s, rows, got, want)
	}
}

func TestPlanP1101(t *testing.T) {
	for _, x := range []struct {
		cards   []int
		rows    int
		parents []int
	}{
		{[]int{4}, 9, []int{-1, 1}}, // the example
		{[]int{1}, 0, []int{-1, 1}},
		{[]int{16}, 300, []int{-1, 1}},
		{[]int{4, 3}, 100, []int{-1, 3, 3, 2}},
		{[]int{3, 4}, 100, []int{-1, 3, 3, 1}},
		{[]int{4, 3}, 0, []int{-1, 3, 3, 1}},
		{[]int{1, 3, 16}, 300, []int{-1, 7, 7, 7, 3, 3, 5, 1}},
		{[]int{16, 3, 1}, 300, []int{-1, 7, 7, 7, 5, 6, 6, 4}},
		{[]int{5, 4, 3, 2}, 300, []int{-1, 15, 15, 15, 15, 11, 13, 14, 13, 14, 14, 9, 10, 12, 12, 8}},
		{[]int{2, 3, 4, 5}, 300, []int{-1, 15, 15, 15, 15, 7, 7, 7, 11, 11, 13, 3, 3, 5, 9, 1}},
	} {
		for measures := range 3 {
			s := api.Schema{Cards: x.cards, Measures: measures}
			mustPlan(t, s, x.rows, of(len(x.cards), x.parents...)...)
		}
	}
}

// Of several parents alike the least set: by their cards, or as rows make them alike.
func TestPlanOfAlikeP1101(t *testing.T) {
	alike := of(4, -1, 15, 15, 15, 15, 7, 7, 7, 11, 11, 13, 3, 3, 5, 9, 1)
	for _, rows := range []int{0, 1, 2, 299, 300} {
		mustPlan(t, api.Schema{Cards: []int{1, 1, 1, 1}}, rows, alike...)
		mustPlan(t, api.Schema{Cards: []int{3, 3, 3, 3}}, rows, alike...)
		mustPlan(t, api.Schema{Cards: []int{16, 16, 16, 16}}, rows, alike...)
	}
	for _, x := range []struct {
		rows    int
		parents []int
	}{
		{4, []int{-1, 3, 3, 1}}, {5, []int{-1, 3, 3, 2}}, {1, []int{-1, 3, 3, 1}}, {300, []int{-1, 3, 3, 2}},
	} {
		mustPlan(t, api.Schema{Cards: []int{5, 4}}, x.rows, of(2, x.parents...)...)
	}
	for _, x := range []struct {
		rows    int
		parents []int
	}{
		{0, []int{-1, 7, 7, 7, 3, 3, 5, 1}}, {1, []int{-1, 7, 7, 7, 3, 3, 5, 1}}, {3, []int{-1, 7, 7, 7, 3, 3, 5, 4}},
		{4, []int{-1, 7, 7, 7, 3, 6, 6, 4}}, {16, []int{-1, 7, 7, 7, 3, 6, 6, 4}}, {17, []int{-1, 7, 7, 7, 5, 6, 6, 4}},
	} {
		mustPlan(t, api.Schema{Cards: []int{16, 3, 1}}, x.rows, of(3, x.parents...)...)
	}
	// 30 rows: 7, 11 and 13 are alike, 14 is less.
	mustPlan(t, api.Schema{Cards: []int{5, 4, 3, 2}}, 30, of(4, -1, 15, 15, 15, 15, 7, 7, 14, 11, 14, 14, 9, 10, 12, 12, 8)...)
}

// schemasOf answers all schemas of so many dimensions with these cards.
func schemasOf(dims int, cards ...int) []api.Schema {
	schemas := []api.Schema{{}}
	for range dims {
		var longer []api.Schema
		for _, s := range schemas {
			for _, card := range cards {
				longer = append(longer, api.Schema{Cards: append(slices.Clone(s.Cards), card)})
			}
		}
		schemas = longer
	}
	return schemas
}

func TestAllSchemasOfSomeCardsP1101(t *testing.T) {
	for dims := 1; dims <= api.MaxDims; dims++ {
		for _, s := range schemasOf(dims, 1, 2, 5, 7, 16) {
			for _, rows := range []int{0, 1, 2, 3, 5, 6, 7, 10, 16, 17, 31, 50, 112, 113, 256, 257, 300} {
				mustPlan(t, s, rows, planByHand(s, rows)...)
			}
		}
	}
}

func TestPlanByDiceP1101(t *testing.T) {
	die := rand.New(rand.NewSource(11))
	first, other := 0, 0
	for range 5000 {
		s := api.Schema{Measures: die.Intn(3)}
		for range 1 + die.Intn(4) {
			s.Cards = append(s.Cards, 1+die.Intn([]int{2, 5, 16}[die.Intn(3)]))
		}
		rows := die.Intn(1 + die.Intn(301))
		plan := planByHand(s, rows)
		mustPlan(t, s, rows, plan...)
		if last := plan[len(plan)-1]; last.Parent == 1 {
			first++
		} else {
			other++
		}
	}
	if first < 1000 || other < 1000 {
		t.Errorf("the die falls to one side: %d, %d", first, other)
	}
}

// The example's words: two edges, whatever card and rows.
func TestOneDimensionP1101(t *testing.T) {
	for card := 1; card <= api.MaxCard; card++ {
		for rows := range api.MaxRows + 1 {
			mustPlan(t, api.Schema{Cards: []int{card}}, rows, of(1, -1, 1)...)
		}
	}
}

func TestRowsOutOfBoundsP9(t *testing.T) {
	for _, rows := range []int{-1, -300, 301, 302, 1 << 32, 1<<32 + 1, math.MinInt, math.MaxInt} {
		for dims := 1; dims <= api.MaxDims; dims++ {
			mustPlan(t, api.Schema{Cards: []int{2, 3, 4, 5}[:dims]}, rows)
		}
	}
}

func TestSchemasOutOfBoundsP9(t *testing.T) {
	for _, s := range []api.Schema{
		{}, {Cards: []int{}}, {Cards: []int{0}}, {Cards: []int{17}}, {Cards: []int{-1}}, {Cards: []int{2, 0}}, {Cards: []int{3, 2, 17}}, {Cards: []int{3, 2, 4, -2}},
		{Cards: []int{1, 1, 1, 1, 1}}, {Cards: []int{math.MaxInt, math.MaxInt}}, {Cards: []int{math.MinInt, 2}}, {Cards: make([]int, 70000)},
		{Cards: []int{2}, Measures: -1}, {Cards: []int{2}, Measures: 3}, {Cards: []int{2}, Measures: math.MinInt}, {Cards: []int{2}, Measures: math.MaxInt},
	} {
		for _, rows := range []int{0, 1, 300, 301, -1} {
			mustPlan(t, s, rows)
		}
	}
}
