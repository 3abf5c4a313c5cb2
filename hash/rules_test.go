package hash_test

import (
	"math"
	"reflect"
	"slices"
	"testing"

	"hypercube/api"
	"hypercube/cell"
	"hypercube/hash"
)

// roomy answers a list with spare room that holds a mark.
func roomy(list ...int) []int {
	return append(append(make([]int, 0, len(list)+2), list...), 99, 99)[:len(list)]
}

// given are cells to hand in, each list with spare room; of keys that come once, twice.
func given() []api.Cell {
	cells := make([]api.Cell, 5, 8)
	for i, key := range [][]int{{4, 6}, {0, 6}, {4, 6}, {0, 2}, {2, 2}} {
		cells[i] = api.Cell{Key: roomy(key...), Count: i + 1, Sum: roomy(i, -i), Min: roomy(-i, -i), Max: roomy(i, i)}
	}
	return cells
}

// roomOf answers all lists of cells, and of those in the spare room behind them, with the lists' own.
func roomOf(list ...[]api.Cell) [][]int {
	var out [][]int
	for _, cells := range list {
		for _, c := range cells[:cap(cells)] {
			for _, l := range [][]int{c.Key, c.Sum, c.Min, c.Max} {
				out = append(out, l[:cap(l)])
			}
		}
	}
	return out
}

// answers are those of all calls that answer cells, some of them twice.
func answers(table *hash.Table, cells []api.Cell) [][]api.Cell {
	for _, c := range cells {
		table.Put(c)
	}
	out := [][]api.Cell{table.Cells(), table.Cells()}
	for _, key := range [][]int{{4, 6}, {4, 6}, {2, 2}, {9, 9}} {
		c, _ := table.Get(key)
		out = append(out, []api.Cell{c})
	}
	for _, slots := range []int{1, 2, 3, 4, 10000} {
		all, _ := hash.Group(cells, slots)
		out = append(out, all)
	}
	return out
}

func TestNothingHandedInChangesP2(t *testing.T) {
	cells, same := given(), given()
	for _, slots := range []int{-1, 0, 1, 3, 4, 10000, 10001} {
		answers(hash.New(slots), cells)
		hash.Group(cells, slots)
	}
	cells[4].Key[1], same[4].Key[1] = 16, 16 // refused
	answers(hash.New(9), cells)
	if !reflect.DeepEqual(cells[:cap(cells)], same[:cap(same)]) || !reflect.DeepEqual(roomOf(cells), roomOf(same)) {
		t.Fatal("P2: what was handed in is changed")
	}
	key := roomy(0, 6)
	tableOf(t, 3, cells[0]).Get(key)
	if !slices.Equal(key[:cap(key)], []int{0, 6, 99, 99}) {
		t.Errorf("P2: a key that was handed in is changed: %v", key[:cap(key)])
	}
}

// Each list is filled, its spare room too, with a number of its own, with those that were handed in: none may lose its number to another.
func TestListsAreNewP2(t *testing.T) {
	cells := given()
	table := hash.New(5)
	lists := roomOf(append(answers(table, cells), cells)...)
	want := told(table.Cells())
	for i, l := range lists {
		for j := range l {
			l[j] = i
		}
	}
	for i, l := range lists {
		for _, v := range l {
			if v != i {
				t.Fatalf("P2: lists %d and %d share memory", i, v)
			}
		}
	}
	if got := told(table.Cells()); got != want {
		t.Errorf("P2: the table has what was handed in, or answered: %s, not %s", got, want)
	}
}

// The same of the lists of cells.
func TestCellsAreNewP2(t *testing.T) {
	cells := given()
	table := hash.New(5)
	lists := append(answers(table, cells), cells)
	want := told(table.Cells())
	for i, l := range lists {
		for j := range l[:cap(l)] {
			l[:cap(l)][j].Count = i
		}
	}
	for i, l := range lists {
		for _, c := range l[:cap(l)] {
			if c.Count != i {
				t.Fatalf("P2: lists %d and %d of cells share memory", i, c.Count)
			}
		}
	}
	if got := told(table.Cells()); got != want {
		t.Errorf("P2: the table has what was answered: %s, not %s", got, want)
	}
}

// One list of numbers may be handed in at many places; answered it is at one.
func TestOneListAtManyPlacesP2(t *testing.T) {
	l := []int{4}
	c := api.Cell{Key: l, Count: 1, Sum: l, Min: l, Max: l}
	once, _ := hash.Group([]api.Cell{c}, 1)
	twice, _ := hash.Group([]api.Cell{c, c}, 1)
	found, _ := tableOf(t, 1, c).Get(l)
	for _, got := range []api.Cell{once[0], twice[0], found, tableOf(t, 1, c).Cells()[0], tableOf(t, 1, c, c).Cells()[0]} {
		got.Key[0], got.Min[0], got.Max[0], got.Sum[0] = 11, 12, 13, 14
		if got.Key[0] != 11 || got.Min[0] != 12 || got.Max[0] != 13 || l[0] != 4 {
			t.Errorf("P2: lists of %v share memory", got)
		}
	}
}

func TestNothingHandedInIsKeptP2(t *testing.T) {
	cells, table := given(), hash.New(5)
	got := answers(table, cells)
	want := told(answers(hash.New(5), given()))
	for _, l := range roomOf(cells) {
		clear(l)
	}
	clear(cells)
	if told(got) != want || told(table.Cells()) != told(got[0]) {
		t.Errorf("P2: what was handed in is kept: %v, %v", got, table.Cells())
	}
}

func TestNilIsEmptyP2(t *testing.T) {
	none := api.Cell{Count: 2}
	empty := api.Cell{Key: []int{}, Count: 3, Sum: []int{}, Min: []int{}, Max: []int{}}
	for _, cells := range [][]api.Cell{{none, empty}, {empty, none}} {
		mustGroup(t, cells, 1, []api.Cell{{Count: 5}}, 1)
		table := tableOf(t, 2, cells...)
		mustHold(t, table, api.Cell{Count: 5})
		for _, key := range [][]int{nil, {}} {
			if c, is := table.Get(key); !is || c.Count != 5 {
				t.Errorf("P2: Get of an empty key: %v, %v", c, is)
			}
		}
	}
	mustGroup(t, []api.Cell{}, 3, nil, 1)
}

func TestSameAgainP3(t *testing.T) {
	first := answers(hash.New(5), given())
	for range 5 {
		hash.Group(given(), 1)
		if again := answers(hash.New(5), given()); !reflect.DeepEqual(first, again) {
			t.Fatalf("P3: %v, then %v", first, again)
		}
	}
}

// To ask changes nothing.
func TestAskedTwiceP3(t *testing.T) {
	table := tableOf(t, 3, bare(9, 6)...)
	for range 3 {
		mustHold(t, table, bare(6, 9)...)
		mustNotHave(t, table, 3)
		mustNotHave(t, table, -1)
	}
}

func TestTablesAreApartP7(t *testing.T) {
	a, b := hash.New(2), hash.New(2)
	if a == b {
		t.Fatal("P7: New answers one that somebody has")
	}
	mustPut(t, a, one([]int{1}, 4), true)
	mustHold(t, b)
	mustPut(t, b, one([]int{1, 2}), true)
	mustPut(t, b, one([]int{1, 1}), true)
	mustHold(t, a, one([]int{1}, 4))
	if b.Len() != 2 || hash.New(2).Len() != 0 {
		t.Errorf("P7: Len %d", b.Len())
	}
}

// Slots that may not be are refused, not clamped: such a table has no place, such a grouping no part.
func TestSlotsOutOfBoundsP9(t *testing.T) {
	for _, slots := range []int{0, -1, -300, 10001, 1 << 40, math.MinInt, math.MaxInt} {
		table := hash.New(slots)
		for _, c := range append(given(), one(nil)) {
			mustPut(t, table, c, false)
			mustNotHave(t, table, c.Key...)
		}
		mustHold(t, table)
		for count := range 5 {
			mustGroup(t, given()[:count], slots, nil, 0)
		}
	}
}

// A table that New has not made has no slots.
func TestTableOfNothingP1(t *testing.T) {
	table := new(hash.Table)
	mustPut(t, table, one([]int{1}), false)
	mustNotHave(t, table, 1)
	mustHold(t, table)
}

// Values that no dimension has are refused, whatever the other cells are.
func TestValuesOutOfBoundsP9(t *testing.T) {
	for _, v := range []int{-1, -2, -300, 16, 17, 256, 1000003, math.MinInt, math.MaxInt} {
		for _, key := range [][]int{{v, 0}, {0, v}, {v, v}} {
			table := tableOf(t, 3, one([]int{0, 15}))
			mustPut(t, table, one(key), false)
			mustNotHave(t, table, key...)
			mustHold(t, table, one([]int{0, 15}))
			for _, cells := range [][]api.Cell{keys(key), keys(key, []int{0, 15}), keys([]int{0, 15}, []int{1, 1}, key)} {
				mustGroup(t, cells, 1, nil, 0)
				mustGroup(t, cells, 10000, nil, 0)
			}
		}
	}
}

// Cells that may not be handed in together are refused, whether their keys meet or not.
func TestUnevenP8(t *testing.T) {
	odd := []api.Cell{
		{Key: []int{1}, Sum: []int{1}}, {Key: []int{1}, Sum: []int{1}, Min: []int{1}}, {Key: []int{1}, Sum: []int{1}, Max: []int{1}},
		{Key: []int{1}, Min: []int{1}, Max: []int{1}}, {Key: []int{1}, Max: []int{1}}, one([]int{1}, 1, 2), one([]int{1}, make([]int, 70)...),
		one(nil), one(nil, 5), one([]int{1, 1}), one([]int{1, 1}, 5), one(make([]int, 70), 5),
	}
	for _, o := range odd {
		for _, even := range []api.Cell{one([]int{1}), one([]int{2}), one([]int{1}, 5), one([]int{2}, 5)} {
			table := tableOf(t, 3, even)
			mustPut(t, table, o, false)
			mustHold(t, table, even)
			for _, cells := range [][]api.Cell{{o, even}, {even, o}, {even, even, o}} {
				for _, slots := range []int{1, 2, 10000} {
					mustGroup(t, cells, slots, nil, 0)
				}
			}
		}
	}
	// A cell that is refused says nothing of those that come after it.
	table := hash.New(2)
	for _, o := range odd[:5] {
		mustPut(t, table, o, false)
	}
	mustPut(t, table, one([]int{3, 3, 3}, 7), true)
	mustHold(t, table, one([]int{3, 3, 3}, 7))
}

// What may not be handed in: the calls end, do not panic, and change nothing.
func TestAnyPlainDataP1(t *testing.T) {
	lists := [][]int{nil, {}, {0}, {-1}, {math.MinInt, math.MaxInt}, {1, 2, 3, 4, 5}, make([]int, 70)}
	numbers := []int{math.MinInt, -1, 0, 1, 2, 3, 10000, math.MaxInt}
	var all []api.Cell
	for i, key := range lists {
		for j, sum := range lists {
			other := lists[(i+j)%len(lists)]
			all = append(all, api.Cell{Key: key, Count: numbers[j], Sum: sum, Min: other, Max: sum}, api.Cell{Key: key, Sum: sum, Min: sum, Max: sum})
		}
	}
	had := told(all)
	for _, slots := range numbers {
		for i := range all {
			table := hash.New(slots)
			for _, c := range all[i:] {
				table.Put(c)
				table.Get(c.Key)
			}
			if got := table.Cells(); len(got) != table.Len() || len(got) > max(slots, 0) {
				t.Errorf("P1: %d cells of Len %d in %d", len(got), table.Len(), slots)
			}
			for _, b := range all {
				hash.Group([]api.Cell{all[i], b, all[i]}, slots)
			}
		}
		hash.Group(all, slots)
	}
	if told(all) != had || !slices.Equal(lists[5], []int{1, 2, 3, 4, 5}) {
		t.Error("P2: what was handed in is changed")
	}
}

// T4: a table never holds more than it has slots.
func TestWithinTheBudgetP703(t *testing.T) {
	for slots := 1; slots < 40; slots++ {
		table := hash.New(slots)
		for i := range 256 {
			is := table.Put(one(keyOf(i, 2)))
			if is != (i < slots) || table.Len() > slots || len(table.Cells()) > slots {
				t.Fatalf("T4: %d of %d slots", table.Len(), slots)
			}
		}
		if got, want := table.Cells(), cell.Group(table.Cells()); len(got) != len(want) {
			t.Errorf("P701: a key stands twice: %v", got)
		}
	}
}
