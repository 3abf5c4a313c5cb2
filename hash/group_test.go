package hash_test

import (
	"math"
	"math/rand"
	"slices"
	"testing"

	"hypercube/api"
	"hypercube/cell"
	"hypercube/hash"
)

func mustGroup(t *testing.T, cells []api.Cell, slots int, want []api.Cell, parts int) {
	t.Helper()
	if got, n := hash.Group(cells, slots); told(got) != told(want) || n != parts {
		t.Errorf("P702: Group of %v by %d: %v, %d, not %v, %d", cells, slots, got, n, want, parts)
	}
}

// keys are cells of one row each, without measures.
func keys(list ...[]int) []api.Cell {
	var cells []api.Cell
	for _, key := range list {
		cells = append(cells, one(key))
	}
	return cells
}

func TestGroupP702(t *testing.T) {
	square := [][]int{{0, 0}, {0, 1}, {1, 0}, {1, 1}}
	for _, x := range []struct {
		in    [][]int
		slots int
		parts int
	}{
		{nil, 1, 1},
		{nil, 10000, 1},
		{[][]int{nil}, 1, 1},
		{[][]int{nil, nil, nil}, 1, 1},
		{[][]int{{4}, {4}, {4}}, 1, 1},
		{[][]int{{4}, {5}}, 1, 2},
		{[][]int{{5}, {4}}, 2, 1},
		{[][]int{{5}, {4}}, 10000, 1},
		{[][]int{{15}, {0}, {7}, {0}, {15}}, 2, 3},
		{[][]int{{15}, {0}, {7}, {0}, {15}}, 3, 1},
		// One part of the first value finds place, one of the other does not.
		{[][]int{{1, 5}, {0, 9}, {1, 4}, {1, 3}}, 2, 4},
		{[][]int{{1, 5}, {0, 9}, {1, 4}, {1, 3}}, 3, 2},
		{[][]int{{1, 5}, {0, 9}, {1, 4}, {1, 3}}, 4, 1},
		{square, 1, 4}, {square, 2, 2}, {square, 3, 2}, {square, 4, 1},
		// The position 0 has one value; one part is no less than all.
		{[][]int{{3, 0}, {3, 1}, {3, 2}}, 2, 3},
		{[][]int{{3, 7, 7, 0}, {3, 7, 7, 1}, {3, 7, 7, 0}, {3, 8, 7, 1}, {3, 8, 7, 1}}, 1, 3},
		{[][]int{{3, 7, 7, 0}, {3, 7, 7, 1}, {3, 7, 7, 0}, {3, 8, 7, 1}, {3, 8, 7, 1}}, 2, 2},
		// Parts that are of several lengths of what is alike.
		{[][]int{{0, 0, 0, 0}, {0, 0, 0, 1}, {0, 0, 1, 0}, {0, 1, 0, 0}, {1, 0, 0, 0}}, 1, 5},
		{[][]int{{0, 0, 0, 0}, {0, 0, 0, 1}, {0, 0, 1, 0}, {0, 1, 0, 0}, {1, 0, 0, 0}}, 2, 4},
		{[][]int{{0, 0, 0, 0}, {0, 0, 0, 1}, {0, 0, 1, 0}, {0, 1, 0, 0}, {1, 0, 0, 0}}, 3, 3},
		{[][]int{{0, 0, 0, 0}, {0, 0, 0, 1}, {0, 0, 1, 0}, {0, 1, 0, 0}, {1, 0, 0, 0}}, 4, 2},
	} {
		cells := keys(x.in...)
		mustGroup(t, cells, x.slots, cell.Group(cells), x.parts)
		slices.Reverse(cells) // how many parts there are does not hang on the order
		mustGroup(t, cells, x.slots, cell.Group(cells), x.parts)
	}
}

func TestGroupIsJoinedP703(t *testing.T) {
	const most, least = math.MaxInt, math.MinInt
	cells := []api.Cell{
		{Key: []int{3, 1}, Count: 4, Sum: []int{most, 5}, Min: []int{2, least}, Max: []int{most, 0}},
		{Key: []int{0, 9}, Count: -1, Sum: []int{0, 0}, Min: []int{1, 1}, Max: []int{-1, -1}},
		{Key: []int{3, 1}, Count: most, Sum: []int{1, -6}, Min: []int{3, 0}, Max: []int{1, 7}},
		{Key: []int{3, 0}, Count: 2, Sum: []int{8, 8}, Min: []int{3, 3}, Max: []int{5, 5}},
		{Key: []int{3, 1}, Count: 1, Sum: []int{1, 0}, Min: []int{-8, 4}, Max: []int{-8, 4}},
	}
	met := api.Cell{Key: []int{3, 1}, Count: least + 4, Sum: []int{least + 1, -1}, Min: []int{-8, least}, Max: []int{most, 7}}
	for slots, parts := range map[int]int{1: 3, 2: 2, 3: 1, 10000: 1} {
		mustGroup(t, cells, slots, []api.Cell{cells[1], cells[3], met}, parts)
	}
}

// byHand groups by the promise's words, position by position.
func byHand(cells []api.Cell, slots, position int) (out []api.Cell, parts int) {
	table, all := make(ring, slots), true
	for _, c := range cells {
		all = all && table.put(c)
	}
	if all {
		out = table.cells()
		slices.SortFunc(out, func(a, b api.Cell) int { return slices.Compare(a.Key, b.Key) })
		return out, 1
	}
	for v := range api.MaxCard {
		var some []api.Cell
		for _, c := range cells {
			if c.Key[position] == v {
				some = append(some, c)
			}
		}
		if len(some) > 0 {
			l, n := byHand(some, slots, position+1)
			out, parts = append(out, l...), parts+n
		}
	}
	return out, parts
}

func TestGroupByDiceP703(t *testing.T) {
	die := rand.New(rand.NewSource(2))
	seen := map[int]int{}
	for range 2000 {
		cells := thrown(die, die.Intn(6), die.Intn(4), die.Intn(60))
		slots := 1 + die.Intn(1+die.Intn(40))
		want, parts := byHand(cells, slots, 0)
		mustGroup(t, cells, slots, want, parts)
		if told(want) != told(cell.Group(cells)) {
			t.Errorf("P703: of %v by %d: %v", cells, slots, want)
		}
		seen[min(parts, 5)]++
		if t.Failed() {
			return
		}
	}
	for parts := 1; parts <= 5; parts++ {
		if seen[parts] < 20 {
			t.Errorf("the die falls to one side: %v", seen)
		}
	}
}

// Of 300 facts, by each number of slots.
func TestEachNumberOfSlotsP703(t *testing.T) {
	die := rand.New(rand.NewSource(3))
	for _, dims := range []int{1, 2, 3, 4} {
		var cells []api.Cell
		for range 300 {
			cells = append(cells, one(keyOf(die.Intn(65536), dims), die.Intn(9)))
		}
		want := cell.Group(cells)
		for slots := 1; slots <= 310; slots++ {
			_, parts := byHand(cells, slots, 0)
			mustGroup(t, cells, slots, want, parts)
		}
	}
}

// What is long ends, too: many cells, and keys of many values, that are alike but for the last one.
func TestManyP703(t *testing.T) {
	const count = 1 << 17
	var cells, want []api.Cell
	for i := range count {
		cells = append(cells, one(keyOf(i*7919%65536, 4), i&1))
	}
	want = cell.Group(cells)
	for slots, parts := range map[int]int{1: 65536, 15: 65536, 16: 4096, 255: 4096, 256: 256, 4096: 16, 10000: 16} {
		if got, n := hash.Group(cells, slots); told(got) != told(want) || n != parts {
			t.Errorf("P703: of %d cells by %d: %d, %d parts", count, slots, len(got), n)
		}
	}
	long := [2][]int{make([]int, 1<<20), make([]int, 1<<20)}
	long[1][1<<20-1] = 9
	got, parts := hash.Group(keys(long[1], long[0], long[1]), 1)
	if parts != 2 || len(got) != 2 || !slices.Equal(got[0].Key, long[0]) || !slices.Equal(got[1].Key, long[1]) || got[1].Count != 2 {
		t.Errorf("P703: of long keys: %d, %d parts", len(got), parts)
	}
}
