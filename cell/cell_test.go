package cell_test

import (
	"fmt"
	"math"
	"math/rand"
	"reflect"
	"slices"
	"testing"

	"hypercube/api"
	"hypercube/cell"
)

// borders are measures at which sums go round, or that a wrong start of a least or greatest one would hide.
var borders = []int{0, 1, -1, 7, -7, 255, 256, -256, 1 << 32, math.MaxInt, math.MaxInt - 1, math.MinInt, math.MinInt + 1}

// facts throws rows of so many dimensions and measures; few values, so that keys meet.
func facts(d *rand.Rand, cards []int, measures, count int) []api.Row {
	rows := make([]api.Row, count)
	for i := range rows {
		for _, card := range cards {
			rows[i].Key = append(rows[i].Key, d.Intn(card))
		}
		for range measures {
			rows[i].M = append(rows[i].M, borders[d.Intn(len(borders))])
		}
	}
	return rows
}

func cards(d *rand.Rand) []int {
	list := make([]int, 1+d.Intn(api.MaxDims))
	for i := range list {
		list[i] = []int{1, 2, 3, 16}[d.Intn(4)]
	}
	return list
}

// ofSet picks what a set says, dimension by dimension.
func ofSet(list []int, set int) []int {
	var out []int
	for i, v := range list {
		if set&(1<<i) != 0 {
			out = append(out, v)
		}
	}
	return out
}

// groupBy is the group-by of facts once more, in other words.
func groupBy(rows []api.Row, set int) []api.Cell {
	byKey := map[string]*api.Cell{}
	for _, r := range rows {
		key := ofSet(r.Key, set)
		c := byKey[fmt.Sprint(key)]
		if c == nil {
			c = &api.Cell{Key: key, Sum: make([]int, len(r.M)), Min: slices.Clone(r.M), Max: slices.Clone(r.M)}
			byKey[fmt.Sprint(key)] = c
		}
		c.Count++
		for m, v := range r.M {
			c.Sum[m] += v
			if v < c.Min[m] {
				c.Min[m] = v
			}
			if v > c.Max[m] {
				c.Max[m] = v
			}
		}
	}
	var out []api.Cell
	for _, c := range byKey {
		out = append(out, *c)
	}
	slices.SortFunc(out, func(a, b api.Cell) int { return slices.Compare(a.Key, b.Key) })
	return out
}

// same holds anything against anything, by what it tells: no list and an empty one are the same.
func same(a, b any) bool { return fmt.Sprint(a) == fmt.Sprint(b) }

// shuffled answers other cells of the same contents, in another order.
func shuffled(d *rand.Rand, cells []api.Cell) []api.Cell {
	out := slices.Clone(cells)
	d.Shuffle(len(out), func(i, j int) { out[i], out[j] = out[j], out[i] })
	return out
}

func allOf(rows []api.Row, set int) []api.Cell {
	var cells []api.Cell
	for _, r := range rows {
		cells = append(cells, cell.Of(r, set))
	}
	return cells
}

func TestOfP201(t *testing.T) {
	for _, x := range []struct {
		key, m []int
		set    int
		want   api.Cell
	}{
		{nil, nil, 0, api.Cell{Count: 1}},
		{nil, []int{4}, 0, api.Cell{Count: 1, Sum: []int{4}, Min: []int{4}, Max: []int{4}}},
		{[]int{3}, nil, 1, api.Cell{Key: []int{3}, Count: 1}},
		{[]int{3}, nil, 0, api.Cell{Count: 1}},
		{[]int{3, 9}, []int{-1}, 2, api.Cell{Key: []int{9}, Count: 1, Sum: []int{-1}, Min: []int{-1}, Max: []int{-1}}},
		{[]int{9, 3}, []int{-1, 1}, 3, api.Cell{Key: []int{9, 3}, Count: 1, Sum: []int{-1, 1}, Min: []int{-1, 1}, Max: []int{-1, 1}}},
		{[]int{-5, math.MaxInt, math.MinInt}, []int{math.MinInt, math.MaxInt}, 6, api.Cell{Key: []int{math.MaxInt, math.MinInt}, Count: 1, Sum: []int{math.MinInt, math.MaxInt}, Min: []int{math.MinInt, math.MaxInt}, Max: []int{math.MinInt, math.MaxInt}}},
	} {
		if got := cell.Of(api.Row{Key: x.key, M: x.m}, x.set); !same(got, x.want) {
			t.Errorf("P201: Of %v, %v by %d: %v", x.key, x.m, x.set, got)
		}
	}
	key := []int{11, 12, 13, 14}
	for set := range 16 {
		if got := cell.Of(api.Row{Key: key}, set); !same(got.Key, ofSet(key, set)) || got.Count != 1 {
			t.Errorf("P201: Of by %d: %v", set, got)
		}
	}
}

func TestLessP201(t *testing.T) {
	// Rising: each is less than all that are behind it.
	rising := [][]int{
		nil, {math.MinInt}, {math.MinInt, 0}, {-1}, {-1, 5}, {0}, {0, -1}, {0, 0}, {0, 0, -9}, {0, 0, 0}, {0, 1}, {0, 15, 15, 15},
		{1}, {1, math.MinInt}, {1, 2}, {1, 2, 3}, {1, 3}, {2}, {10}, {255}, {256}, {math.MaxInt}, {math.MaxInt, math.MaxInt},
	}
	for i, a := range rising {
		for j, b := range rising {
			want := 0
			if i < j {
				want = -1
			} else if i > j {
				want = 1
			}
			if got := cell.Less(slices.Clone(a), b); got != want {
				t.Errorf("P201: Less of %v, %v: %d", a, b, got)
			}
		}
	}
	if cell.Less(nil, []int{}) != 0 || cell.Less([]int{}, nil) != 0 {
		t.Error("P201: Less of no list and an empty one")
	}
}

func TestJoinP201(t *testing.T) {
	const most, least = math.MaxInt, math.MinInt
	for _, x := range []struct{ a, b, want api.Cell }{
		{api.Cell{}, api.Cell{}, api.Cell{}},
		{api.Cell{Count: 1}, api.Cell{Count: 2}, api.Cell{Count: 3}},
		{
			api.Cell{Key: []int{3, 4}, Count: 1, Sum: []int{5}, Min: []int{5}, Max: []int{5}},
			api.Cell{Key: []int{3, 4}, Count: 6, Sum: []int{-8}, Min: []int{-9}, Max: []int{2}},
			api.Cell{Key: []int{3, 4}, Count: 7, Sum: []int{-3}, Min: []int{-9}, Max: []int{5}},
		},
		{
			api.Cell{Key: []int{-1}, Count: 2, Sum: []int{1, -2}, Min: []int{0, -2}, Max: []int{1, 0}},
			api.Cell{Key: []int{-1}, Count: 2, Sum: []int{30, 40}, Min: []int{10, 15}, Max: []int{20, 25}},
			api.Cell{Key: []int{-1}, Count: 4, Sum: []int{31, 38}, Min: []int{0, -2}, Max: []int{20, 25}},
		},
		{
			api.Cell{Count: most, Sum: []int{most, least}, Min: []int{most, least}, Max: []int{most, least}},
			api.Cell{Count: 2, Sum: []int{1, -1}, Min: []int{least, most}, Max: []int{least, most}},
			api.Cell{Count: least + 1, Sum: []int{least, most}, Min: []int{least, least}, Max: []int{most, most}},
		},
		{
			api.Cell{Sum: []int{1, 2, 3}, Min: []int{1, 2, 3}, Max: []int{1, 2, 3}},
			api.Cell{Sum: []int{6, 5, 4}, Min: []int{3, 2, 1}, Max: []int{3, 2, 1}},
			api.Cell{Sum: []int{7, 7, 7}, Min: []int{1, 2, 1}, Max: []int{3, 2, 3}},
		},
	} {
		if got := cell.Join(x.a, x.b); !same(got, x.want) {
			t.Errorf("P201: Join of %v, %v: %v", x.a, x.b, got)
		}
		if got := cell.Join(x.b, x.a); !same(got, x.want) {
			t.Errorf("P201: Join of %v, %v: %v", x.b, x.a, got)
		}
	}
}

func TestNarrowP201(t *testing.T) {
	values := []int{21, 22, 23, 24}
	for from := range 16 {
		c := api.Cell{Key: ofSet(values, from), Count: 300, Sum: []int{8, -8}, Min: []int{1, -9}, Max: []int{3, 0}}
		for to := range 16 {
			if to&from != to {
				continue
			}
			want := api.Cell{Key: ofSet(values, to), Count: 300, Sum: []int{8, -8}, Min: []int{1, -9}, Max: []int{3, 0}}
			if got := cell.Narrow(c, from, to); !same(got, want) {
				t.Errorf("P201: Narrow of %v from %d to %d: %v", c, from, to, got)
			}
		}
	}
	if got := cell.Narrow(api.Cell{Key: []int{-3}, Count: -1}, 4, 4); !same(got, api.Cell{Key: []int{-3}, Count: -1}) {
		t.Errorf("P201: Narrow to the same: %v", got)
	}
}

// W1 has an end to the dimensions of no set.
func TestNarrowOfHighDimensionsP201(t *testing.T) {
	c := api.Cell{Key: []int{1, 2, 3}, Count: 1}
	for to, want := range map[int][]int{0: nil, 1 << 62: {3}, 1 << 40: {2}, 1: {1}, 1<<62 | 1: {1, 3}, 1<<62 | 1<<40 | 1: {1, 2, 3}} {
		if got := cell.Narrow(c, 1<<62|1<<40|1, to); !same(got.Key, want) || got.Count != 1 {
			t.Errorf("P201: Narrow to %d: %v", to, got)
		}
	}
}

func TestGroupP201(t *testing.T) {
	one := func(key ...int) api.Cell { return api.Cell{Key: key, Count: 1} }
	many := func(n int, key ...int) api.Cell { return api.Cell{Key: key, Count: n} }
	for _, x := range []struct{ cells, want []api.Cell }{
		{nil, nil},
		{[]api.Cell{}, nil},
		{[]api.Cell{one(5)}, []api.Cell{one(5)}},
		{[]api.Cell{one(), one(), one()}, []api.Cell{many(3)}},
		{[]api.Cell{one(2), one(1), one(2), one(0)}, []api.Cell{one(0), one(1), many(2, 2)}},
		{[]api.Cell{one(1, 0), one(0, 1), one(0, 0), one(0, 1)}, []api.Cell{one(0, 0), many(2, 0, 1), one(1, 0)}},
		// Keys of other lengths, and of values that no dimension has.
		{[]api.Cell{one(1), one(1, -1), one(), one(1), one(0, 7)}, []api.Cell{one(), one(0, 7), many(2, 1), one(1, -1)}},
		{[]api.Cell{one(math.MaxInt), one(math.MinInt), one(-1), one(math.MaxInt)}, []api.Cell{one(math.MinInt), one(-1), many(2, math.MaxInt)}},
		{[]api.Cell{one(1, 23), one(12, 3)}, []api.Cell{one(1, 23), one(12, 3)}},
		{[]api.Cell{one(256), one(0)}, []api.Cell{one(0), one(256)}},
		{[]api.Cell{many(math.MaxInt, 4), one(4)}, []api.Cell{many(math.MinInt, 4)}},
		{[]api.Cell{many(0, 4), many(-3, 4)}, []api.Cell{many(-3, 4)}},
	} {
		if got := cell.Group(x.cells); !same(got, x.want) {
			t.Errorf("P201: Group of %v: %v", x.cells, got)
		}
	}
}

func TestGroupByFactsP201(t *testing.T) {
	d := rand.New(rand.NewSource(1))
	for range 1000 {
		list := cards(d)
		rows := facts(d, list, d.Intn(4), d.Intn(40))
		set := d.Intn(1 << len(list))
		if got, want := cell.Group(allOf(rows, set)), groupBy(rows, set); !same(got, want) {
			t.Fatalf("P201: Group of %v by %d: %v, not %v", rows, set, got, want)
		}
	}
	rows := facts(d, []int{3, 2}, 2, 5000)
	for set := range 4 {
		if got := cell.Group(allOf(rows, set)); !same(got, groupBy(rows, set)) {
			t.Errorf("P201: Group of many by %d: %v", set, got)
		}
	}
}

// Pieces of groups, of sets on the way, in any order, come to the same.
func TestGroupOfNarrowedP203(t *testing.T) {
	d := rand.New(rand.NewSource(2))
	for range 1000 {
		list := cards(d)
		rows := facts(d, list, d.Intn(3), d.Intn(40))
		to := d.Intn(1 << len(list))
		way := to | d.Intn(1<<len(list))
		from := way | d.Intn(1<<len(list))
		cut := d.Intn(len(rows) + 1)
		cells := shuffled(d, slices.Concat(cell.Group(allOf(rows[:cut], from)), cell.Group(allOf(rows[cut:], from))))
		for _, step := range [][2]int{{from, way}, {way, to}} {
			for i, c := range cells {
				cells[i] = cell.Narrow(c, step[0], step[1])
			}
			cells = shuffled(d, cell.Group(cells))
		}
		if got, want := cell.Group(cells), cell.Group(allOf(rows, to)); !same(got, want) || !same(want, groupBy(rows, to)) {
			t.Fatalf("P203: %v from %d by %d to %d: %v, not %v", rows, from, way, to, got, want)
		}
	}
}

// What may not be handed in is refused, not made fit.
func TestRefusedP9(t *testing.T) {
	row := api.Row{Key: []int{1, 2}, M: []int{3}}
	for _, set := range []int{4, 7, 8, 15, 16, -1, -2, math.MinInt, math.MaxInt} {
		if got := cell.Of(row, set); !reflect.DeepEqual(got, api.Cell{}) {
			t.Errorf("P9: Of by %d: %v", set, got)
		}
	}
	if got := cell.Of(api.Row{Key: make([]int, 5)}, 1); !reflect.DeepEqual(got, api.Cell{}) {
		t.Errorf("P9: Of five dimensions: %v", got)
	}
	c := api.Cell{Key: []int{1, 2}, Count: 1, Sum: []int{3}, Min: []int{3}, Max: []int{3}}
	for _, x := range [][2]int{{3, 4}, {3, 7}, {3, -1}, {1, 1}, {7, 3}, {0, 0}, {-1, 0}, {math.MinInt, 0}, {math.MinInt | 1, 1}, {math.MaxInt, 1}} {
		if got := cell.Narrow(c, x[0], x[1]); !reflect.DeepEqual(got, api.Cell{}) {
			t.Errorf("P9: Narrow from %d to %d: %v", x[0], x[1], got)
		}
	}
	if got := cell.Join(c, api.Cell{Key: []int{1, 3}, Count: 1, Sum: []int{3}, Min: []int{3}, Max: []int{3}}); !reflect.DeepEqual(got, api.Cell{}) {
		t.Errorf("P9: Join of other keys: %v", got)
	}
	for i, other := range []api.Cell{
		{Key: []int{1, 2}}, {Key: []int{1, 2}, Sum: []int{3}}, {Key: []int{1, 2}, Sum: []int{3}, Min: []int{3}},
		{Key: []int{1, 2}, Sum: []int{3}, Max: []int{3}}, {Key: []int{1, 2}, Min: []int{3}, Max: []int{3}},
		{Key: []int{1, 2}, Sum: []int{3}, Min: []int{3, 4}, Max: []int{3}}, {Key: []int{1, 2}, Sum: []int{3, 4}, Min: []int{3, 4}, Max: []int{3, 4}},
	} {
		if a, b := cell.Join(c, other), cell.Join(other, c); !reflect.DeepEqual(a, api.Cell{}) || !reflect.DeepEqual(b, api.Cell{}) {
			t.Errorf("P9: Join %d: %v, %v", i, a, b)
		}
		if a, b := cell.Group([]api.Cell{c, c, other}), cell.Group([]api.Cell{other, c}); len(a) > 0 || len(b) > 0 {
			t.Errorf("P9: Group %d: %v, %v", i, a, b)
		}
	}
}
