package sorts

import (
	"slices"
	"testing"

	"hypercube/api"
)

func same[E comparable](a, b [][]E) bool { return slices.EqualFunc(a, b, slices.Equal[[]E]) }

func TestLevelsP1001(t *testing.T) {
	for dims, want := range [][][]int{
		1: {{1}, {0}},
		2: {{3}, {1, 2}, {0}},
		3: {{7}, {3, 5, 6}, {1, 2, 4}, {0}},
		4: {{15}, {7, 11, 13, 14}, {3, 5, 6, 9, 10, 12}, {1, 2, 4, 8}, {0}},
	} {
		if got := levelsOf(dims); dims > 0 && !same(got, want) {
			t.Errorf("P1001: levels of %d: %v, not %v", dims, got, want)
		}
	}
}

// What match.Assign is asked: first the sets above, then a column for each row.
func TestCostsP1001(t *testing.T) {
	const no = 1_000_000
	f := facts{api.Schema{Cards: []int{1, 3, 16}}, 300} // 3: 3 cells; 5: 16; 6, 7: 48
	for _, x := range []struct {
		sets, above []int
		want        [][]int
	}{
		{[]int{3, 5, 6}, []int{7}, [][]int{{48, 336, no, no}, {48, no, 336, no}, {48, no, no, 336}}},
		{[]int{1, 2, 4}, []int{3, 5, 6}, [][]int{{3, 16, no, 9, no, no}, {3, no, 48, no, 9, no}, {no, 16, 48, no, no, 96}}},
		{[]int{0}, []int{1, 2, 4}, [][]int{{1, 3, 16, 2}}},
	} {
		l := level{facts: f, sets: x.sets, above: x.above}
		if got := l.costs(); !same(got, x.want) {
			t.Errorf("P1001: costs of %v: %v, not %v", x.sets, got, x.want)
		}
	}
}

func TestEdgeP1001(t *testing.T) {
	l := level{facts: facts{api.Schema{Cards: []int{16, 3, 1}}, 300}, sets: []int{1, 2, 4}, above: []int{3, 5, 6}}
	for _, x := range []struct {
		set, column int
		want        api.Edge
	}{
		{1, 0, api.Edge{Set: 1, Parent: 3, Scan: true}},
		{4, 2, api.Edge{Set: 4, Parent: 6, Scan: true}},
		{1, 3, api.Edge{Set: 1, Parent: 5}},
		{2, 4, api.Edge{Set: 2, Parent: 6}},
		{4, 5, api.Edge{Set: 4, Parent: 6}},
	} {
		if got := l.edge(x.set, x.column); got != x.want {
			t.Errorf("P1001: edge of %d, column %d: %v, not %v", x.set, x.column, got, x.want)
		}
	}
}

// Of several the first one, which is the least set, as parents rise.
func TestCheapestP1001(t *testing.T) {
	prices := price(func(parent int) int { return []int{5, 3, 9, 3, 4}[parent] })
	for _, x := range []struct {
		parents []int
		want    int
	}{{[]int{2}, 2}, {[]int{0, 1, 2, 3, 4}, 1}, {[]int{2, 3, 1}, 3}, {[]int{0, 2, 4}, 4}, {[]int{0, 2}, 0}} {
		if got := prices.cheapest(x.parents); got != x.want {
			t.Errorf("P1001: cheapest of %v: %d, not %d", x.parents, got, x.want)
		}
	}
}

func TestBySetP1002(t *testing.T) {
	names := newBySet[string](2)
	for set := range names {
		if names[set] != "" {
			t.Errorf("P1002: value of %d: %q", set, names[set])
		}
		names[set] = string(rune('a' + set))
	}
	if got := names.listed(2); !slices.Equal(got, []string{"d", "b", "c", "a"}) {
		t.Errorf("P1002: values in plans' order: %v", got)
	}
	if got := newBySet[int](4).listed(4); len(got) != 16 {
		t.Errorf("P1002: %d values", len(got))
	}
}

func TestRisingP1002(t *testing.T) {
	for set, want := range map[int][]int{0: nil, 1: {0}, 8: {3}, 6: {1, 2}, 13: {0, 2, 3}, 15: {0, 1, 2, 3}} {
		if got := rising(set); !slices.Equal(got, want) {
			t.Errorf("P1002: dimensions of %d: %v, not %v", set, got, want)
		}
	}
}
