package runs_test

import (
	"fmt"
	"math"
	"math/rand"
	"slices"
	"testing"

	"hypercube/api"
	"hypercube/cell"
	"hypercube/runs"
)

// one is a cell of one row, of measures m.
func one(key []int, m ...int) api.Cell {
	return api.Cell{Key: key, Count: 1, Sum: slices.Clone(m), Min: slices.Clone(m), Max: slices.Clone(m)}
}

// bare are cells of one row each, of keys of one number, without measures.
func bare(keys ...int) []api.Cell {
	var cells []api.Cell
	for _, k := range keys {
		cells = append(cells, one([]int{k}))
	}
	return cells
}

// told writes what counts of cells: no list and an empty one are the same.
func told(cells any) string { return fmt.Sprint(cells) }

func mustRun(t *testing.T, cells []api.Cell, most int, want [][]api.Cell) {
	t.Helper()
	if got := runs.Runs(cells, most); told(got) != told(want) {
		t.Errorf("P501: Runs of %v, %d at most: %v, not %v", cells, most, got, want)
	}
}

// counted is a run of keys of one number, each with its Count.
func counted(pairs ...[2]int) []api.Cell {
	var cells []api.Cell
	for _, p := range pairs {
		cells = append(cells, api.Cell{Key: []int{p[0]}, Count: p[1]})
	}
	return cells
}

func TestRunsP501(t *testing.T) {
	for _, x := range []struct {
		keys []int
		most int
		want [][]api.Cell
	}{
		{nil, 1, nil},
		{nil, math.MaxInt, nil},
		{[]int{4}, 1, [][]api.Cell{counted([2]int{4, 1})}},
		{[]int{4, 4, 4}, 1, [][]api.Cell{counted([2]int{4, 3})}},
		{[]int{4, 3}, 1, [][]api.Cell{counted([2]int{4, 1}), counted([2]int{3, 1})}},
		{[]int{4, 3, 4}, 1, [][]api.Cell{counted([2]int{4, 1}), counted([2]int{3, 1}), counted([2]int{4, 1})}},
		// as many as may be held: one run, not an empty one behind it
		{[]int{9, 1, 5}, 3, [][]api.Cell{counted([2]int{1, 1}, [2]int{5, 1}, [2]int{9, 1})}},
		{[]int{9, 1, 5}, 4, [][]api.Cell{counted([2]int{1, 1}, [2]int{5, 1}, [2]int{9, 1})}},
		{[]int{9, 1, 5}, math.MaxInt, [][]api.Cell{counted([2]int{1, 1}, [2]int{5, 1}, [2]int{9, 1})}},
		{[]int{9, 1, 5}, 2, [][]api.Cell{counted([2]int{1, 1}, [2]int{9, 1}), counted([2]int{5, 1})}},
		// a key that is held has room where all are held, and makes no run
		{[]int{2, 1, 2, 1, 2}, 2, [][]api.Cell{counted([2]int{1, 2}, [2]int{2, 3})}},
		{[]int{2, 1, 1, 0, 0, 1}, 2, [][]api.Cell{counted([2]int{1, 2}, [2]int{2, 1}), counted([2]int{0, 2}, [2]int{1, 1})}},
		// none is held behind a run: a key of it comes anew
		{[]int{2, 1, 3, 2, 1, 3}, 2, [][]api.Cell{counted([2]int{1, 1}, [2]int{2, 1}), counted([2]int{2, 1}, [2]int{3, 1}), counted([2]int{1, 1}, [2]int{3, 1})}},
		// runs are full up to the last one, though all of a later one might stand in an earlier one
		{[]int{5, 6, 7, 8, 1}, 2, [][]api.Cell{counted([2]int{5, 1}, [2]int{6, 1}), counted([2]int{7, 1}, [2]int{8, 1}), counted([2]int{1, 1})}},
		{[]int{math.MaxInt, math.MinInt, 0, -1}, 4, [][]api.Cell{counted([2]int{math.MinInt, 1}, [2]int{-1, 1}, [2]int{0, 1}, [2]int{math.MaxInt, 1})}},
	} {
		mustRun(t, bare(x.keys...), x.most, x.want)
	}
}

// Cells of one key are joined, those of different keys are not, however alike these look.
func TestKeysThatLookAlikeP501(t *testing.T) {
	rising := [][]int{
		nil, {math.MinInt}, {-12}, {-1}, {-1, 2}, {0}, {0, 0}, {0, 0, 0}, {0, 1}, {0, 256}, {1}, {1, -2}, {1, 2}, {1, 2, 3}, {1, 23},
		{2}, {2, 1}, {12}, {12, 3}, {123}, {255}, {256}, {257}, {1 << 32}, {1<<32 + 1}, {math.MaxInt},
	}
	var cells, want []api.Cell
	for i, key := range rising {
		want = append(want, api.Cell{Key: key, Count: 2, Sum: []int{i - 7}, Min: []int{-7}, Max: []int{i}})
		cells = append(cells, one(key, i), one(slices.Clone(key), -7))
	}
	for _, c := range want {
		c.Min[0], c.Max[0] = min(-7, c.Max[0]), max(-7, c.Max[0])
	}
	rand.New(rand.NewSource(1)).Shuffle(len(cells), func(i, j int) { cells[i], cells[j] = cells[j], cells[i] })
	mustRun(t, cells, len(rising), [][]api.Cell{want})
	mustRun(t, cells, math.MaxInt, [][]api.Cell{want})
}

func TestJoinedP501(t *testing.T) {
	const most, least = math.MaxInt, math.MinInt
	cells := []api.Cell{
		{Key: []int{3, 1}, Count: 4, Sum: []int{most, 5}, Min: []int{2, least}, Max: []int{most, 0}},
		{Key: []int{0, 9}, Count: -1, Sum: []int{0, 0}, Min: []int{1, 1}, Max: []int{-1, -1}},
		{Key: []int{3, 1}, Count: most, Sum: []int{1, -6}, Min: []int{3, 0}, Max: []int{1, 7}},
		{Key: []int{3, 1}, Count: 1, Sum: []int{1, 0}, Min: []int{-8, 4}, Max: []int{-8, 4}},
	}
	mustRun(t, cells, 2, [][]api.Cell{{
		{Key: []int{0, 9}, Count: -1, Sum: []int{0, 0}, Min: []int{1, 1}, Max: []int{-1, -1}},
		{Key: []int{3, 1}, Count: least + 4, Sum: []int{least + 1, -1}, Min: []int{-8, least}, Max: []int{most, 7}},
	}})
	mustRun(t, cells[:2], 1, [][]api.Cell{cells[:1], cells[1:2]})
	// the set of no dimensions: one key
	mustRun(t, []api.Cell{one(nil, 2), one([]int{}, -3), one(nil, 4)}, 1, [][]api.Cell{{{Count: 3, Sum: []int{3}, Min: []int{-3}, Max: []int{4}}}})
}

func TestSortedP501(t *testing.T) {
	for _, x := range []struct {
		keys [][]int
		want bool
	}{
		{nil, true}, {[][]int{nil}, true}, {[][]int{{7}}, true}, {[][]int{{1}, {2}}, true}, {[][]int{{2}, {1}}, false}, {[][]int{{1}, {1}}, false},
		{[][]int{nil, nil}, false}, {[][]int{nil, {}}, false}, {[][]int{nil, {math.MinInt}}, true}, {[][]int{{math.MinInt}, nil}, false},
		{[][]int{{0}, {0, 0}, {0, 0, 0}}, true}, {[][]int{{0, 0}, {0}}, false}, {[][]int{{1, 9}, {2}, {2, 0}}, true}, {[][]int{{1, 9}, {1, 8}}, false},
		{[][]int{{1, 2, 3, 4}, {1, 2, 3, 5}}, true}, {[][]int{{1, 2, 3, 5}, {1, 2, 3, 4}}, false},
		{[][]int{{math.MinInt}, {-1}, {0}, {math.MaxInt}}, true}, {[][]int{{math.MaxInt}, {math.MinInt}}, false},
		{[][]int{{1}, {2}, {2}, {3}}, false}, {[][]int{{1}, {3}, {2}, {4}}, false}, {[][]int{{1}, {2}, {3}, {3}}, false}, {[][]int{{2}, {1}, {3}, {4}}, false},
		{[][]int{{1}, {2}, {3}, {1}}, false}, {[][]int{{5}, {6}, {1}, {2}}, false},
	} {
		var cells []api.Cell
		for i, key := range x.keys {
			// Only keys count: the rest of a cell may be anything.
			cells = append(cells, api.Cell{Key: key, Count: -i, Sum: make([]int, i), Max: []int{i}})
		}
		if got := runs.Sorted(cells); got != x.want {
			t.Errorf("P501: Sorted of %v: %v", x.keys, got)
		}
	}
}

// Each order of the keys 0 to 4, and each key made another one's.
func TestSortedOfEachOrderP501(t *testing.T) {
	for n := range 5 * 5 * 5 * 5 * 5 {
		keys := []int{n % 5, n / 5 % 5, n / 25 % 5, n / 125 % 5, n / 625}
		want := keys[0] < keys[1] && keys[1] < keys[2] && keys[2] < keys[3] && keys[3] < keys[4]
		if got := runs.Sorted(bare(keys...)); got != want {
			t.Fatalf("P501: Sorted of %v: %v", keys, got)
		}
	}
}

// byHand makes runs by the promise's words, over a list that is looked through.
func byHand(cells []api.Cell, most int) [][]api.Cell {
	var out [][]api.Cell
	var held []api.Cell
	end := func() {
		if len(held) > 0 {
			slices.SortFunc(held, func(a, b api.Cell) int { return slices.Compare(a.Key, b.Key) })
			out = append(out, held)
		}
		held = nil
	}
	for _, c := range cells {
		i := slices.IndexFunc(held, func(h api.Cell) bool { return slices.Equal(h.Key, c.Key) })
		if i < 0 {
			if len(held) == most {
				end()
			}
			held = append(held, c)
			continue
		}
		h := api.Cell{Key: c.Key, Count: held[i].Count + c.Count}
		for m := range c.Sum {
			h.Sum = append(h.Sum, held[i].Sum[m]+c.Sum[m])
			h.Min = append(h.Min, min(held[i].Min[m], c.Min[m]))
			h.Max = append(h.Max, max(held[i].Max[m], c.Max[m]))
		}
		held[i] = h
	}
	end()
	return out
}

// thrown are cells of one set, of few values, so that keys meet.
func thrown(die *rand.Rand, dims, measures, count int) []api.Cell {
	var cells []api.Cell
	card := 1 + die.Intn(4)
	for range count {
		var key, m []int
		for range dims {
			key = append(key, die.Intn(card))
		}
		for range measures {
			m = append(m, int(die.Uint64()))
		}
		c := one(key, m...)
		c.Count = 1 + die.Intn(3)
		cells = append(cells, c)
	}
	return cells
}

func TestRunsByDiceP502(t *testing.T) {
	die := rand.New(rand.NewSource(2))
	seen := map[string]int{}
	for range 2000 {
		cells := thrown(die, die.Intn(5), die.Intn(4), die.Intn(60))
		most := 1 + die.Intn(12)
		got := runs.Runs(cells, most)
		mustRun(t, cells, most, byHand(cells, most))
		var all []api.Cell
		for _, run := range got {
			if len(run) > most || len(run) == 0 || !runs.Sorted(run) {
				t.Errorf("P502: a run of %d, %d at most: %v", len(run), most, run)
			}
			all = append(all, run...)
		}
		if told(cell.Group(all)) != told(cell.Group(cells)) {
			t.Errorf("P502: runs of %v, %d at most, come to others: %v", cells, most, got)
		}
		seen[fmt.Sprint(min(2, len(got)))]++
		if len(all) > len(cell.Group(cells)) {
			seen["apart"]++ // one key in several runs
		}
		if t.Failed() {
			return
		}
	}
	for _, what := range []string{"0", "1", "2", "apart"} {
		if seen[what] < 20 {
			t.Errorf("the die falls to one side: %v", seen)
		}
	}
}

// What is long ends, too.
func TestManyCellsP502(t *testing.T) {
	const count, keys = 200000, 70001
	var cells []api.Cell
	for i := range count {
		cells = append(cells, api.Cell{Key: []int{i * 7919 % keys}, Count: 1})
	}
	for most, want := range map[int]int{1: count, 1000: count / 1000, keys: 1, math.MaxInt: 1} {
		got := runs.Runs(cells, most)
		rows := 0
		for _, run := range got {
			if len(run) > most || !runs.Sorted(run) {
				t.Fatalf("P502: a run of %d, %d at most", len(run), most)
			}
			for _, c := range run {
				rows += c.Count
			}
		}
		if len(got) != want || rows != count {
			t.Errorf("P502: of %d cells, %d at most, %d runs of %d", count, most, len(got), rows)
		}
	}
}
