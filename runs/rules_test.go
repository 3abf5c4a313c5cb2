package runs_test

import (
	"math"
	"reflect"
	"slices"
	"testing"

	"hypercube/api"
	"hypercube/runs"
)

// roomy answers a list with spare room that holds a mark.
func roomy(list ...int) []int {
	return append(append(make([]int, 0, len(list)+2), list...), 99, 99)[:len(list)]
}

// given are cells to hand in, each list with spare room; with 2 held at most they are two runs, of keys that came once, twice, in both.
func given() []api.Cell {
	cells := make([]api.Cell, 5, 8)
	for i, key := range [][]int{{4, 6}, {0, 6}, {4, 6}, {2, 2}, {0, 6}} {
		cells[i] = api.Cell{Key: roomy(key...), Count: i + 1, Sum: roomy(i, -i), Min: roomy(-i, -i), Max: roomy(i, i)}
	}
	return cells
}

// roomOf answers all lists of cells, and of those in the spare room behind them, with the lists' own.
func roomOf(cells []api.Cell) [][]int {
	var out [][]int
	for _, c := range cells[:cap(cells)] {
		for _, l := range [][]int{c.Key, c.Sum, c.Min, c.Max} {
			out = append(out, l[:cap(l)])
		}
	}
	return out
}

func TestNothingHandedInChangesP2(t *testing.T) {
	cells, same := given(), given()
	for _, most := range []int{0, 1, 2, 3, math.MaxInt} {
		runs.Runs(cells, most)
		runs.Sorted(cells)
		if !reflect.DeepEqual(cells[:cap(cells)], same[:cap(same)]) || !reflect.DeepEqual(roomOf(cells), roomOf(same)) {
			t.Fatalf("P2: of %d at most: what was handed in is changed", most)
		}
	}
}

// Each list is filled, its spare room too, with a number of its own, behind those that were handed in: none may lose its number to another.
func TestListsAreNewP2(t *testing.T) {
	for _, most := range []int{1, 2, 3} {
		cells := given()
		lists := roomOf(cells)
		for _, run := range append(runs.Runs(cells, most), runs.Runs(cells, most)...) {
			lists = append(lists, roomOf(run)...)
		}
		for i, l := range lists {
			for j := range l {
				l[j] = i
			}
		}
		for i, l := range lists {
			for _, v := range l {
				if v != i {
					t.Fatalf("P2: of %d at most: lists %d and %d share memory", most, i, v)
				}
			}
		}
	}
}

// The same of the lists of cells.
func TestRunsAreNewP2(t *testing.T) {
	for _, most := range []int{1, 2, 3, 4} {
		cells := given()
		lists := append([][]api.Cell{cells}, append(runs.Runs(cells, most), runs.Runs(cells, most)...)...)
		for i, l := range lists {
			for j := range l[:cap(l)] {
				l[:cap(l)][j].Count = i
			}
		}
		for i, l := range lists {
			for _, c := range l[:cap(l)] {
				if c.Count != i {
					t.Fatalf("P2: of %d at most: runs %d and %d share memory", most, i, c.Count)
				}
			}
		}
	}
}

func TestNothingHandedInIsKeptP2(t *testing.T) {
	cells := given()
	got := runs.Runs(cells, 2)
	want := told(runs.Runs(given(), 2))
	for _, l := range roomOf(cells) {
		clear(l)
	}
	clear(cells)
	if told(got) != want {
		t.Errorf("P2: the answer keeps what was handed in: %v", got)
	}
}

func TestNilIsEmptyP2(t *testing.T) {
	none := api.Cell{Count: 2}
	empty := api.Cell{Key: []int{}, Count: 3, Sum: []int{}, Min: []int{}, Max: []int{}}
	for _, cells := range [][]api.Cell{{none, empty}, {empty, none}} {
		mustRun(t, cells, 1, [][]api.Cell{{{Count: 5}}})
		if runs.Sorted(cells) {
			t.Error("P2: no key is less than an empty one, or the other way")
		}
	}
	if len(runs.Runs([]api.Cell{}, 1)) != 0 || !runs.Sorted([]api.Cell{}) {
		t.Error("P2: an empty list of cells")
	}
}

func TestSameAgainP3(t *testing.T) {
	first := runs.Runs(given(), 2)
	for range 20 { // a map is gone through in another order each time
		runs.Runs(given(), 3)
		if again := runs.Runs(given(), 2); !reflect.DeepEqual(first, again) {
			t.Fatalf("P3: %v, then %v", first, again)
		}
	}
}

// A most that may not be is refused, not clamped.
func TestMostBelowOneP9(t *testing.T) {
	for _, most := range []int{0, -1, -300, math.MinInt} {
		if got := runs.Runs(given(), most); len(got) != 0 {
			t.Errorf("P9: %d at most: %v", most, got)
		}
	}
}

// Cells that may not be handed in together are refused, whether their keys meet or not, and whether one run has them or two.
func TestUnevenMeasuresP8(t *testing.T) {
	odd := []api.Cell{
		{Key: []int{1}, Sum: []int{1}}, {Key: []int{1}, Sum: []int{1}, Min: []int{1}}, {Key: []int{1}, Sum: []int{1}, Max: []int{1}},
		{Key: []int{1}, Min: []int{1}, Max: []int{1}}, {Key: []int{1}, Max: []int{1}}, one([]int{1}, 1, 2), one([]int{1}, make([]int, 70)...),
	}
	for _, o := range odd {
		for _, even := range []api.Cell{one([]int{1}), one([]int{2}), one([]int{1}, 5), one([]int{2}, 5)} {
			for _, most := range []int{1, 2, math.MaxInt} {
				for _, cells := range [][]api.Cell{{o, even}, {even, o}, {even, even, o}} {
					if got := runs.Runs(cells, most); len(got) != 0 {
						t.Errorf("P8: Runs of %v: %v", cells, got)
					}
				}
			}
		}
	}
}

// What may not be handed in: the calls end, do not panic, and change nothing.
func TestAnyPlainDataP1(t *testing.T) {
	lists := [][]int{nil, {}, {0}, {-1}, {math.MinInt, math.MaxInt}, {1, 2, 3, 4, 5}, make([]int, 70)}
	numbers := []int{math.MinInt, -1, 0, 1, 2, math.MaxInt}
	var cells []api.Cell
	for i, key := range lists {
		for j, sum := range lists {
			other := lists[(i+j)%len(lists)]
			cells = append(cells, api.Cell{Key: key, Count: numbers[j%len(numbers)], Sum: sum, Min: other, Max: sum}, api.Cell{Key: key, Sum: sum, Min: sum, Max: sum})
		}
	}
	had := told(cells)
	for _, most := range numbers {
		runs.Runs(cells, most)
		for _, a := range cells {
			for _, b := range cells {
				runs.Runs([]api.Cell{a, b}, most)
				runs.Sorted([]api.Cell{b, a})
			}
		}
	}
	runs.Sorted(cells)
	if told(cells) != had || !slices.Equal(lists[5], []int{1, 2, 3, 4, 5}) {
		t.Error("P2: what was handed in is changed")
	}
}
