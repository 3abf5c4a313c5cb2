package merge_test

import (
	"math"
	"reflect"
	"slices"
	"testing"

	"hypercube/api"
	"hypercube/merge"
)

// roomy answers a list with spare room that holds a mark.
func roomy(list ...int) []int {
	return append(append(make([]int, 0, len(list)+2), list...), 99, 99)[:len(list)]
}

// given are runs to hand in, each list with spare room; their keys are in one, two, or all of them.
func given() [][]api.Cell {
	list := make([][]api.Cell, 3, 5)
	for i, keys := range [][][]int{{{0, 6}, {2, 2}, {4, 6}}, {{0, 6}, {2, 3}}, {{0, 5}, {0, 6}, {2, 3}, {9, 9}}} {
		list[i] = make([]api.Cell, 0, 6)
		for j, key := range keys {
			list[i] = append(list[i], api.Cell{Key: roomy(key...), Count: i + 1, Sum: roomy(i, -j), Min: roomy(-i, -j), Max: roomy(i, j)})
		}
	}
	return list
}

// roomOf answers all lists of cells, and of those in the spare room behind them, with the lists' own.
func roomOf(list ...[]api.Cell) [][]int {
	var out [][]int
	for _, cells := range list {
		for _, c := range cells[:cap(cells)] {
			for _, l := range [][]int{c.Key, c.Sum, c.Min, c.Max} {
				out = append(out, l[:cap(l)])
			}
		}
	}
	return out
}

// wide answers runs with what stands in the spare room behind them, and behind each.
func wide(list [][]api.Cell) [][]api.Cell {
	var out [][]api.Cell
	for _, cells := range list[:cap(list)] {
		out = append(out, cells[:cap(cells)])
	}
	return out
}

// answers are those of all calls that merge.
func answers(list [][]api.Cell) [][]api.Cell {
	out := [][]api.Cell{merge.Two(list[0], list[1]), merge.Two(list[0], nil), merge.Two(nil, list[1]), merge.Two(list[2], list[2])}
	for _, some := range [][][]api.Cell{list, list[:2], list[:1], append(list[:2:2], list[:2]...)} {
		for _, fan := range []int{2, 3, math.MaxInt} {
			cells, _ := merge.Merge(some, fan)
			out = append(out, cells)
		}
	}
	return out
}

func TestNothingHandedInChangesP2(t *testing.T) {
	list, same := given(), given()
	answers(list)
	for _, fan := range []int{1, 0, -1} {
		merge.Merge(list, fan)
	}
	list[0][0], list[0][1] = list[0][1], list[0][0] // not sorted
	same[0][0], same[0][1] = same[0][1], same[0][0]
	answers(list)
	if !reflect.DeepEqual(wide(list), wide(same)) || !reflect.DeepEqual(roomOf(list...), roomOf(same...)) {
		t.Fatal("P2: what was handed in is changed")
	}
}

// Each list is filled, its spare room too, with a number of its own, with those that were handed in: none may lose its number to another.
func TestListsAreNewP2(t *testing.T) {
	list := given()
	lists := roomOf(append(answers(list), list...)...)
	for i, l := range lists {
		for j := range l {
			l[j] = i
		}
	}
	for i, l := range lists {
		for _, v := range l {
			if v != i {
				t.Fatalf("P2: lists %d and %d share memory", i, v)
			}
		}
	}
}

// The same of the lists of cells.
func TestCellsAreNewP2(t *testing.T) {
	list := given()
	lists := append(answers(list), list...)
	for i, l := range lists {
		for j := range l[:cap(l)] {
			l[:cap(l)][j].Count = i
		}
	}
	for i, l := range lists {
		for _, c := range l[:cap(l)] {
			if c.Count != i {
				t.Fatalf("P2: lists %d and %d of cells share memory", i, c.Count)
			}
		}
	}
}

// One list of numbers may be handed in at many places; answered it is at one.
func TestOneListAtManyPlacesP2(t *testing.T) {
	l := []int{4}
	cells := []api.Cell{{Key: l, Count: 1, Sum: l, Min: l, Max: l}}
	two := merge.Two(cells, nil)
	both := merge.Two(cells, cells)
	left, _ := merge.Merge([][]api.Cell{cells}, 2)
	for _, got := range [][]api.Cell{two, both, left} {
		got[0].Key[0], got[0].Min[0], got[0].Max[0], got[0].Sum[0] = 11, 12, 13, 14
		if got[0].Key[0] != 11 || got[0].Min[0] != 12 || got[0].Max[0] != 13 || l[0] != 4 {
			t.Errorf("P2: lists of %v share memory", got)
		}
	}
}

func TestNothingHandedInIsKeptP2(t *testing.T) {
	list := given()
	got := answers(list)
	want := told(answers(given()))
	for _, l := range roomOf(list...) {
		clear(l)
	}
	for _, cells := range list {
		clear(cells)
	}
	clear(list)
	if told(got) != want {
		t.Errorf("P2: the answers keep what was handed in: %v", got)
	}
}

func TestNilIsEmptyP2(t *testing.T) {
	none := []api.Cell{{Count: 2}}
	empty := []api.Cell{{Key: []int{}, Count: 3, Sum: []int{}, Min: []int{}, Max: []int{}}}
	for _, x := range [][2][]api.Cell{{none, empty}, {empty, none}} {
		mustTwo(t, x[0], x[1], []api.Cell{{Count: 5}})
		mustMerge(t, [][]api.Cell{x[0], x[1], {}, nil}, 2, []api.Cell{{Count: 5}}, 2)
	}
	mustTwo(t, []api.Cell{}, nil, nil)
	mustTwo(t, nil, []api.Cell{}, nil)
	mustTwo(t, []api.Cell{}, bare(1), bare(1))
	mustMerge(t, [][]api.Cell{}, 2, nil, 0)
	mustMerge(t, [][]api.Cell{{}}, 2, nil, 0)
	mustMerge(t, [][]api.Cell{{}, nil}, 2, nil, 1)
}

func TestSameAgainP3(t *testing.T) {
	first := answers(given())
	for range 5 {
		merge.Merge(given(), 1)
		if again := answers(given()); !reflect.DeepEqual(first, again) {
			t.Fatalf("P3: %v, then %v", first, again)
		}
	}
}

// A fan that may not be is refused, not clamped, however many runs there are.
func TestFanBelowTwoP9(t *testing.T) {
	for _, fan := range []int{1, 0, -1, -2, -300, math.MinInt} {
		for count := range 4 {
			if got, passes := merge.Merge(given()[:count], fan); len(got) != 0 || passes != 0 {
				t.Errorf("P9: of %d runs by %d: %v, %d", count, fan, got, passes)
			}
		}
	}
}

// Lists that are not sorted are refused, wherever they stand.
func TestNotSortedP8(t *testing.T) {
	for _, odd := range [][]api.Cell{bare(2, 1), bare(1, 1), bare(1, 3, 2), bare(1, 2, 2), {one(nil), one(nil)}, {one([]int{0, 0}), one([]int{0})}} {
		for _, x := range [][2][]api.Cell{{odd, nil}, {nil, odd}, {odd, bare(1)}, {bare(1, 2, 3), odd}, {odd, odd}} {
			if got := merge.Two(x[0], x[1]); len(got) != 0 {
				t.Errorf("P8: Two of %v: %v", x, got)
			}
		}
		for _, list := range [][][]api.Cell{{odd}, {odd, bare(1)}, {bare(1), nil, odd}, {nil, odd, nil, nil}} {
			if got, passes := merge.Merge(list, 2); len(got) != 0 || passes != 0 {
				t.Errorf("P8: Merge of %v: %v, %d", list, got, passes)
			}
		}
	}
}

// Cells of one key that can't be joined are refused, in whichever pass they would meet.
func TestUnevenMeasuresP8(t *testing.T) {
	odd := []api.Cell{
		{Key: []int{1}, Sum: []int{1}}, {Key: []int{1}, Sum: []int{1}, Min: []int{1}}, {Key: []int{1}, Sum: []int{1}, Max: []int{1}},
		{Key: []int{1}, Min: []int{1}, Max: []int{1}}, {Key: []int{1}, Max: []int{1}}, one([]int{1}, 1, 2), one([]int{1}, make([]int, 70)...),
	}
	for _, o := range odd {
		for _, even := range []api.Cell{one([]int{1}), one([]int{1}, 5)} {
			a, b := []api.Cell{one([]int{0}), o, one([]int{2})}, []api.Cell{even, one([]int{3})}
			for _, x := range [][2][]api.Cell{{a, b}, {b, a}} {
				if got := merge.Two(x[0], x[1]); len(got) != 0 {
					t.Errorf("P8: Two of %v: %v", x, got)
				}
				for _, fan := range []int{2, 3, math.MaxInt} {
					if got, passes := merge.Merge([][]api.Cell{x[0], nil, bare(9), bare(8), x[1]}, fan); len(got) != 0 || passes != 0 {
						t.Errorf("P8: Merge of %v by %d: %v, %d", x, fan, got, passes)
					}
				}
			}
		}
	}
}

// What may not be handed in: the calls end, do not panic, and change nothing.
func TestAnyPlainDataP1(t *testing.T) {
	lists := [][]int{nil, {}, {0}, {-1}, {math.MinInt, math.MaxInt}, {1, 2, 3, 4, 5}, make([]int, 70)}
	numbers := []int{math.MinInt, -1, 0, 1, 2, 3, math.MaxInt}
	var all [][]api.Cell
	for i, key := range lists {
		for j, sum := range lists {
			other := lists[(i+j)%len(lists)]
			all = append(all, []api.Cell{
				{Key: key, Count: numbers[j], Sum: sum, Min: other, Max: sum}, {Key: other, Sum: sum, Min: sum, Max: sum},
			}, []api.Cell{{Key: key, Count: j, Sum: other, Min: other, Max: other}})
		}
	}
	had := told(all)
	for _, a := range all {
		for _, b := range all {
			merge.Two(a, b)
			for _, fan := range numbers {
				merge.Merge([][]api.Cell{a, b, a}, fan)
			}
		}
	}
	for _, fan := range numbers {
		merge.Merge(all, fan)
	}
	if told(all) != had || !slices.Equal(lists[5], []int{1, 2, 3, 4, 5}) {
		t.Error("P2: what was handed in is changed")
	}
}
