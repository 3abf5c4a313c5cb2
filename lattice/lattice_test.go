package lattice_test

import (
	"math"
	"math/rand"
	"slices"
	"strconv"
	"testing"

	"hypercube/api"
	"hypercube/lattice"
)

func mustBeSets(t *testing.T, dims int, want ...int) {
	t.Helper()
	if got := lattice.Sets(dims); !slices.Equal(got, want) {
		t.Errorf("P801: Sets of %d: %v, not %v", dims, got, want)
	}
}

func mustLevel(t *testing.T, set, want int) {
	t.Helper()
	if got := lattice.Level(set); got != want {
		t.Errorf("P801: Level of %d: %d, not %d", set, got, want)
	}
}

func mustHaveParents(t *testing.T, set, dims int, want ...int) {
	t.Helper()
	if got := lattice.Parents(set, dims); !slices.Equal(got, want) {
		t.Errorf("P801: Parents of %d of %d: %v, not %v", set, dims, got, want)
	}
}

// mustCost holds Size and Scan against one number, Sort against the other.
func mustCost(t *testing.T, s api.Schema, rows, set, size, sort int) {
	t.Helper()
	got := [3]int{lattice.Size(s, rows, set), lattice.Scan(s, rows, set), lattice.Sort(s, rows, set)}
	if want := [3]int{size, size, sort}; got != want {
		t.Errorf("P801: Size, Scan, Sort of %v, %d rows, set %d: %v, not %v", s, rows, set, got, want)
	}
}

func TestSetsP801(t *testing.T) {
	mustBeSets(t, 1, 1, 0)
	mustBeSets(t, 2, 3, 1, 2, 0)
	mustBeSets(t, 3, 7, 3, 5, 6, 1, 2, 4, 0)
	mustBeSets(t, 4, 15, 7, 11, 13, 14, 3, 5, 6, 9, 10, 12, 1, 2, 4, 8, 0)
}

func TestLevelP801(t *testing.T) {
	for set, want := range []int{0, 1, 1, 2, 1, 2, 2, 3, 1, 2, 2, 3, 2, 3, 3, 4} {
		mustLevel(t, set, want)
	}
}

func TestParentsP801(t *testing.T) {
	for _, x := range []struct {
		set, dims int
		want      []int
	}{
		{0, 1, []int{1}}, {1, 1, nil},
		{0, 2, []int{1, 2}}, {1, 2, []int{3}}, {2, 2, []int{3}}, {3, 2, nil},
		{0, 3, []int{1, 2, 4}}, {2, 3, []int{3, 6}}, {5, 3, []int{7}}, {7, 3, nil},
		{0, 4, []int{1, 2, 4, 8}}, {4, 4, []int{5, 6, 12}}, {8, 4, []int{9, 10, 12}}, {5, 4, []int{7, 13}}, {6, 4, []int{7, 14}},
		{7, 4, []int{15}}, {14, 4, []int{15}}, {15, 4, nil},
	} {
		mustHaveParents(t, x.set, x.dims, x.want...)
	}
}

// has tells whether a set has a dimension, by its binary digits as a text.
func has(set, dimension int) bool {
	digits := strconv.FormatInt(int64(set), 2)
	return dimension < len(digits) && digits[len(digits)-1-dimension] == '1'
}

func levelByHand(set int) int {
	level := 0
	for d := range api.MaxDims {
		if has(set, d) {
			level++
		}
	}
	return level
}

func isWithin(set, other int) bool {
	for d := range api.MaxDims {
		if has(set, d) && !has(other, d) {
			return false
		}
	}
	return true
}

// Each set of each number of dimensions, by the promise's words.
func TestAllSetsP801(t *testing.T) {
	for dims := 1; dims <= api.MaxDims; dims++ {
		var all []int
		for level := dims; level >= 0; level-- {
			for set := range 1 << dims {
				if levelByHand(set) == level {
					all = append(all, set)
				}
			}
		}
		mustBeSets(t, dims, all...)
		for set := range 1 << dims {
			mustLevel(t, set, levelByHand(set))
			var parents []int
			for other := range 1 << dims {
				if levelByHand(other) == levelByHand(set)+1 && isWithin(set, other) {
					parents = append(parents, other)
				}
			}
			mustHaveParents(t, set, dims, parents...)
		}
	}
}

func TestCostsP801(t *testing.T) {
	s := api.Schema{Cards: []int{3, 16, 1, 5}, Measures: 1}
	for _, x := range []struct{ rows, set, size, sort int }{
		// Of no dimensions there is one key; of no rows there is none.
		{300, 0, 1, 2}, {1, 0, 1, 2}, {0, 0, 0, 0}, {0, 15, 0, 0}, {0, 2, 0, 0},
		{300, 1, 3, 9}, {300, 2, 16, 96}, {300, 4, 1, 2}, {300, 8, 5, 20},
		{300, 3, 48, 336}, {300, 9, 15, 75}, {300, 12, 5, 20}, {300, 6, 16, 96}, {300, 10, 80, 640},
		{300, 11, 240, 2160}, {300, 15, 240, 2160},
		// No more than rows.
		{241, 15, 240, 2160}, {240, 15, 240, 2160}, {239, 15, 239, 2151}, {128, 15, 128, 1152}, {127, 15, 127, 1016},
		{16, 2, 16, 96}, {15, 2, 15, 75}, {8, 2, 8, 40}, {7, 2, 7, 28}, {4, 2, 4, 16}, {3, 2, 3, 9}, {2, 2, 2, 6}, {1, 2, 1, 2},
	} {
		mustCost(t, s, x.rows, x.set, x.size, x.sort)
	}
	most := api.Schema{Cards: []int{16, 16, 16, 16}, Measures: 2}
	for _, x := range []struct{ rows, set, size, sort int }{
		{300, 15, 300, 3000}, {300, 14, 300, 3000}, {300, 5, 256, 2560}, {256, 15, 256, 2560}, {255, 15, 255, 2295}, {300, 8, 16, 96},
	} {
		mustCost(t, most, x.rows, x.set, x.size, x.sort)
	}
	mustCost(t, api.Schema{Cards: []int{1}}, 300, 1, 1, 2)
	mustCost(t, api.Schema{Cards: []int{16}}, 300, 1, 16, 96)
}

// keysByHand counts a set's keys one by one.
func keysByHand(cards []int, set int) int {
	keys := [][]int{nil}
	for d, card := range cards {
		if !has(set, d) {
			continue
		}
		var longer [][]int
		for _, key := range keys {
			for v := range card {
				longer = append(longer, append(slices.Clone(key), v))
			}
		}
		keys = longer
	}
	return len(keys)
}

func TestCostsByDiceP801(t *testing.T) {
	die := rand.New(rand.NewSource(1))
	seen := map[bool]int{}
	for range 300 {
		s := api.Schema{Measures: die.Intn(3)}
		for range 1 + die.Intn(4) {
			s.Cards = append(s.Cards, 1+die.Intn([]int{3, 7, 16}[die.Intn(3)]))
		}
		for range 20 {
			rows, set := die.Intn(1+die.Intn(301)), die.Intn(1<<len(s.Cards))
			keys := keysByHand(s.Cards, set)
			size, sort := min(keys, rows), 0
			if size > 0 {
				sort = size + size*len(strconv.FormatInt(int64(size), 2))
			}
			mustCost(t, s, rows, set, size, sort)
			seen[keys > rows]++
		}
	}
	if seen[true] < 500 || seen[false] < 500 {
		t.Errorf("the die falls to one side: %v", seen)
	}
}

// Refused are numbers that are out of bounds by themselves, and sets of more dimensions than are told.
func TestOutOfBoundsP9(t *testing.T) {
	for _, dims := range []int{0, -1, -4, 5, 62, 63, 64, 1 << 40, math.MinInt, math.MaxInt} {
		mustBeSets(t, dims)
		for _, set := range []int{0, 1, 15, 16, -1} {
			mustHaveParents(t, set, dims)
		}
	}
	for _, set := range []int{-1, -2, -15, -16, 16, 17, 31, 1 << 40, math.MinInt, math.MinInt + 1, math.MaxInt} {
		mustLevel(t, set, 0)
		for dims := 1; dims <= 4; dims++ {
			mustHaveParents(t, set, dims)
			mustCost(t, api.Schema{Cards: []int{2, 3, 4, 5}[:dims]}, 300, set, 0, 0)
		}
	}
	for dims := 1; dims < 4; dims++ {
		for set := 1 << dims; set < 16; set++ {
			mustHaveParents(t, set, dims)
			mustCost(t, api.Schema{Cards: []int{2, 3, 4}[:dims]}, 300, set, 0, 0)
		}
	}
	for _, rows := range []int{-1, -300, 301, 1 << 40, math.MinInt, math.MaxInt} {
		for set := range 4 {
			mustCost(t, api.Schema{Cards: []int{2, 3}}, rows, set, 0, 0)
		}
	}
}

// A schema that rec.Check refuses has no sizes, of no set.
func TestSchemasOutOfBoundsP9(t *testing.T) {
	for _, s := range []api.Schema{
		{}, {Cards: []int{}}, {Cards: []int{0}}, {Cards: []int{17}}, {Cards: []int{-1}}, {Cards: []int{2, 0}}, {Cards: []int{3, 2, 17}},
		{Cards: []int{1, 1, 1, 1, 1}}, {Cards: []int{math.MaxInt, math.MaxInt}}, {Cards: []int{math.MinInt, 2}}, {Cards: make([]int, 70000)},
		{Cards: []int{2}, Measures: -1}, {Cards: []int{2}, Measures: 3}, {Cards: []int{2}, Measures: math.MinInt}, {Cards: []int{2}, Measures: math.MaxInt},
	} {
		for set := range 16 {
			mustCost(t, s, 300, set, 0, 0)
		}
	}
}
