package exec_test

import (
	"math"
	"math/rand"
	"reflect"
	"slices"
	"sync"
	"testing"

	"hypercube/api"
	"hypercube/exec"
)

// roomy answers a list with spare room that holds a mark.
func roomy(list ...int) []int {
	return append(append(make([]int, 0, len(list)+2), list...), 99, 99)[:len(list)]
}

// given are cells of set 3 to hand in, each list with spare room; of keys that come once, twice, and, with a budget of 3, in two runs.
func given() []api.Cell {
	cells := make([]api.Cell, 7, 10)
	for i, key := range [][]int{{4, 6}, {0, 6}, {4, 6}, {2, 2}, {3, 1}, {0, 6}, {0, 5}} {
		cells[i] = api.Cell{Key: roomy(key...), Count: i + 1, Sum: roomy(i, -i), Min: roomy(-i, -i), Max: roomy(i, i)}
	}
	return cells
}

// roomOf answers all lists of cells, and of those in the spare room behind them, with the lists' own.
func roomOf(list ...[]api.Cell) [][]int {
	var out [][]int
	for _, cells := range list {
		for _, c := range cells[:cap(cells)] {
			for _, l := range [][]int{c.Key, c.Sum, c.Min, c.Max} {
				out = append(out, l[:cap(l)])
			}
		}
	}
	return out
}

// answers are those of many calls, some of them twice.
func answers(cells []api.Cell) [][]api.Cell {
	var out [][]api.Cell
	for _, algorithm := range []int{api.BySort, api.ByHash, api.BySort, api.ByHash} {
		for _, budget := range []int{3, 4, 5, 9, math.MaxInt} {
			for set := range 4 {
				m, _ := exec.One(cells, 3, set, budget, algorithm)
				out = append(out, m.Cells)
			}
		}
	}
	return out
}

func TestNothingHandedInChangesP2(t *testing.T) {
	cells, same := given(), given()
	mustBeSame := func() {
		t.Helper()
		if !reflect.DeepEqual(cells[:cap(cells)], same[:cap(same)]) || !reflect.DeepEqual(roomOf(cells), roomOf(same)) {
			t.Fatal("P2: what was handed in is changed")
		}
	}
	answers(cells)
	mustBeSame()
	for _, budget := range []int{-1, 2, 3, 9} {
		for algorithm := range 3 {
			for parent := -1; parent < 17; parent++ {
				exec.One(cells, parent, 1, budget, algorithm)
				exec.One(cells, 3, parent, budget, algorithm)
			}
		}
	}
	mustBeSame()
}

// Each list is filled, its spare room too, with a number of its own, with those that were handed in: none may lose its number to another.
func TestListsAreNewP2(t *testing.T) {
	cells := given()
	lists := roomOf(append(answers(cells), cells)...)
	for i, l := range lists {
		for j := range l {
			l[j] = i
		}
	}
	for i, l := range lists {
		for _, v := range l {
			if v != i {
				t.Fatalf("P2: lists %d and %d share memory", i, v)
			}
		}
	}
}

// The same of the lists of cells.
func TestCellsAreNewP2(t *testing.T) {
	cells := given()
	lists := append(answers(cells), cells)
	for i, l := range lists {
		for j := range l[:cap(l)] {
			l[:cap(l)][j].Count = i
		}
	}
	for i, l := range lists {
		for _, c := range l[:cap(l)] {
			if c.Count != i {
				t.Fatalf("P2: lists %d and %d of cells share memory", i, c.Count)
			}
		}
	}
}

// One list of numbers may be handed in at many places; answered it is at one.
func TestOneListAtManyPlacesP2(t *testing.T) {
	l := []int{4}
	c := api.Cell{Key: l, Count: 1, Sum: l, Min: l, Max: l}
	for _, algorithm := range []int{api.BySort, api.ByHash} {
		for count := 1; count <= 3; count++ {
			m, _ := exec.One(slices.Repeat([]api.Cell{c}, count), 1, 1, 3, algorithm)
			got := m.Cells[0]
			got.Key[0], got.Min[0], got.Max[0], got.Sum[0] = 11, 12, 13, 14
			if got.Key[0] != 11 || got.Min[0] != 12 || got.Max[0] != 13 || l[0] != 4 {
				t.Errorf("P2: lists of %v share memory", got)
			}
		}
	}
}

func TestNothingHandedInIsKeptP2(t *testing.T) {
	cells := given()
	got, want := answers(cells), told(answers(given()))
	for _, l := range roomOf(cells) {
		clear(l)
	}
	clear(cells)
	if told(got) != want {
		t.Errorf("P2: what was handed in is kept: %v, not %s", got, want)
	}
}

func TestNilIsEmptyP2(t *testing.T) {
	none := api.Cell{Count: 2}
	empty := api.Cell{Key: []int{}, Count: 3, Sum: []int{}, Min: []int{}, Max: []int{}}
	mustBoth(t, []api.Cell{none, empty}, 0, 0, 3, []api.Cell{{Count: 5}}, 1, 1)
	mustBoth(t, []api.Cell{empty, none}, 0, 0, 3, []api.Cell{{Count: 5}}, 1, 1)
	mustBoth(t, []api.Cell{}, 3, 1, 3, nil, 0, 0)
}

func TestSameAgainP3(t *testing.T) {
	first := answers(given())
	for range 10 { // a map is gone through in another order each time
		exec.One(given(), 3, 16, 3, api.ByHash)
		exec.One(given(), 3, 1, 2, api.BySort)
		if again := answers(given()); !reflect.DeepEqual(first, again) {
			t.Fatalf("P3: %v, then %v", first, again)
		}
	}
}

// Calls side by side keep nothing that they could touch; they read one list.
func TestSideBySideP7(t *testing.T) {
	cells := given()
	want := told(answers(given()))
	var all sync.WaitGroup
	for range 8 {
		all.Go(func() {
			for range 10 {
				if got := told(answers(cells)); got != want {
					t.Errorf("P7: %s, not %s", got, want)
				}
			}
		})
	}
	all.Wait()
}

// mustBeRefused hands in what may not be, by either algorithm.
func mustBeRefused(t *testing.T, cells []api.Cell, parent, set int) {
	t.Helper()
	for _, budget := range []int{3, 400, math.MaxInt} {
		mustRefuse(t, cells, parent, set, budget, api.BySort, api.BadInput)
		mustRefuse(t, cells, parent, set, budget, api.ByHash, api.BadInput)
	}
}

func TestSetsOutOfBoundsP9(t *testing.T) {
	for _, parent := range []int{-1, -2, -16, 16, 17, 31, 32, 1 << 40, math.MinInt, math.MaxInt} {
		for _, cells := range [][]api.Cell{nil, keys(nil), bare(1), keys([]int{1, 2, 3, 4, 5})} {
			mustBeRefused(t, cells, parent, 0)
			mustBeRefused(t, cells, parent, 1)
			mustBeRefused(t, cells, parent, parent)
		}
	}
	for parent := range 16 {
		cells := keys(make([]int, len(narrowByHand([]int{0, 1, 2, 3}, 15, parent))))
		for _, set := range []int{-1, -16, 16, 17, 1 << 40, math.MinInt, math.MaxInt} {
			mustBeRefused(t, cells, parent, set)
			mustBeRefused(t, nil, parent, set)
		}
		for set := range 16 { // one that the parent has not got
			if set&^parent != 0 {
				mustBeRefused(t, cells, parent, set)
				mustBeRefused(t, nil, parent, set)
			}
		}
	}
}

// A value that no dimension has is refused, whether the set has its dimension or not.
func TestValuesOutOfBoundsP9(t *testing.T) {
	for _, v := range []int{-1, -2, 16, 17, 256, 1000003, math.MinInt, math.MaxInt} {
		for set := range 4 {
			mustBeRefused(t, keys([]int{v, 0}), 3, set)
			mustBeRefused(t, keys([]int{0, v}), 3, set)
			mustBeRefused(t, keys([]int{1, 1}, []int{0, 15}, []int{v, 15}), 3, set)
		}
	}
	mustBoth(t, keys([]int{15, 0}, []int{0, 15}), 3, 3, 3, keys([]int{0, 15}, []int{15, 0}), 2, 2)
}

func TestMoreThanRowsP9(t *testing.T) {
	cells := slices.Repeat(bare(7), 302)
	mustBoth(t, cells[:300], 1, 1, 3, []api.Cell{{Key: []int{7}, Count: 300}}, 1, 1)
	mustBeRefused(t, cells[:301], 1, 1)
	mustBeRefused(t, cells, 1, 0)
}

// Keys that are not the parent's, and cells that may not stand together, whether they meet or not.
func TestUnfitCellsP8(t *testing.T) {
	odd := []api.Cell{
		{Key: []int{1}, Sum: []int{1}}, {Key: []int{1}, Sum: []int{1}, Min: []int{1}}, {Key: []int{1}, Sum: []int{1}, Max: []int{1}},
		{Key: []int{1}, Min: []int{1}, Max: []int{1}}, {Key: []int{1}, Max: []int{1}}, one([]int{1}, 1, 2), one([]int{1}, make([]int, 70)...),
		one(nil), one(nil, 5), one([]int{1, 1}), one([]int{1, 1}, 5), one(make([]int, 70), 5),
	}
	for _, o := range odd {
		for _, even := range []api.Cell{one([]int{1}), one([]int{2}), one([]int{1}, 5), one([]int{2}, 5)} {
			for set := range 2 {
				mustBeRefused(t, []api.Cell{o, even}, 1, set)
				mustBeRefused(t, []api.Cell{even, o}, 1, set)
				mustBeRefused(t, []api.Cell{even, even, o}, 1, set)
			}
		}
	}
	for parent := range 16 {
		dims := len(narrowByHand([]int{0, 1, 2, 3}, 15, parent))
		for length := range 7 {
			if length != dims {
				mustBeRefused(t, keys(make([]int, length)), parent, 0)
				mustBeRefused(t, keys(make([]int, length)), parent, parent)
			}
		}
	}
}

// Whatever is handed in, the call ends and does not panic, and of what may be it answers what it comes to.
func TestAnyPlainDataP1(t *testing.T) {
	die := rand.New(rand.NewSource(25))
	numbers := []int{3, 1, 0, 2, 7, 15, 16, -1, 5, 10000, 10001, 1 << 32, 1 << 62, math.MaxInt, math.MinInt}
	number := func() int { return numbers[die.Intn(1+die.Intn(len(numbers)))] }
	list := func() []int {
		l := make([]int, die.Intn(1+die.Intn(4)))
		for i := range l {
			l[i] = number()
		}
		return l
	}
	seen := map[api.Errno]int{}
	for range 50000 {
		cells := make([]api.Cell, die.Intn(4))
		for i := range cells {
			cells[i] = api.Cell{Key: list(), Count: number(), Sum: list(), Min: list(), Max: list()}
		}
		had := told(cells)
		parent, set, budget, algorithm := number(), number(), number(), die.Intn(3)
		got, e := exec.One(cells, parent, set, budget, algorithm)
		switch seen[e]++; {
		case told(cells) != had:
			t.Fatalf("P2: what was handed in is changed: %s, %v", had, cells)
		case e == api.OK:
			mustBeByHand(t, cells, parent, set, budget)
		case got.Cells != nil || got.High != 0:
			t.Fatalf("P4: beside %v: %v", e, got)
		}
	}
	for _, e := range []api.Errno{api.OK, api.BadConfig, api.TooSmall, api.BadInput} {
		if seen[e] < 1000 {
			t.Errorf("the die falls to one side: %v", seen)
		}
	}
}
