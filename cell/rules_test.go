package cell_test

import (
	"bytes"
	"math"
	"reflect"
	"testing"

	"hypercube/api"
	"hypercube/cell"
)

// roomy answers a list with spare room that holds a mark.
func roomy(list ...int) []int {
	return append(append(make([]int, 0, len(list)+2), list...), 99, 99)[:len(list)]
}

// given are things to hand in, each list with spare room, the cells out of order.
func given() (api.Row, api.Schema, []api.Cell) {
	r := api.Row{Key: roomy(4, 5, 6), M: roomy(-7, 8)}
	s := api.Schema{Cards: roomy(5, 6, 7), Measures: 2}
	cells := make([]api.Cell, 3, 5)
	for i, key := range [][]int{{4, 6}, {0, 6}, {4, 6}} {
		cells[i] = api.Cell{Key: roomy(key...), Count: i + 1, Sum: roomy(i, -i), Min: roomy(-i, -i), Max: roomy(i, i)}
	}
	return r, s, cells
}

// room answers lists with their spare room.
func room(lists ...[]int) [][]int {
	var out [][]int
	for _, l := range lists {
		out = append(out, l[:cap(l)])
	}
	return out
}

func roomOf(cells ...api.Cell) [][]int {
	var out [][]int
	for _, c := range cells[:cap(cells)] {
		out = append(out, room(c.Key, c.Sum, c.Min, c.Max)...)
	}
	return out
}

func TestNothingHandedInChangesP2(t *testing.T) {
	r, s, cells := given()
	sameRow, sameSchema, sameCells := given()
	cell.Of(r, 5)
	cell.Less(r.Key, r.M)
	cell.Join(cells[0], cells[2])
	cell.Narrow(cells[0], 5, 1)
	rising := cell.Group(cells)
	b := cell.Encode(5, rising)
	more := append(bytes.Clone(b), 99, 99)
	if _, _, is := cell.Decode(s, more[:len(b)]); !is {
		t.Fatalf("P202: Decode of %q", b)
	}
	if !reflect.DeepEqual(room(r.Key, r.M), room(sameRow.Key, sameRow.M)) || !reflect.DeepEqual(room(s.Cards), room(sameSchema.Cards)) {
		t.Error("P2: a row or a schema that was handed in is changed")
	}
	if !reflect.DeepEqual(cells[:cap(cells)], sameCells[:cap(cells)]) || !reflect.DeepEqual(roomOf(cells...), roomOf(sameCells...)) {
		t.Error("P2: cells that were handed in are changed")
	}
	if !bytes.Equal(more, append(bytes.Clone(b), 99, 99)) {
		t.Error("P2: bytes that were handed in are changed")
	}
}

// Each list is filled, its spare room too, with a number of its own, behind those that were handed in: none may lose its number to another.
func TestAnswersAreNewP2(t *testing.T) {
	r, s, cells := given()
	cells = cells[:len(cells):len(cells)]
	handed := append(roomOf(cells...), room(r.Key, r.M, s.Cards)...)
	joined := cell.Join(cells[0], cells[2])
	groups := cell.Group(cells)
	b := cell.Encode(5, groups)
	_, back, _ := cell.Decode(s, b)
	answers := map[string][]api.Cell{
		"Of": {cell.Of(r, 7), cell.Of(r, 7), cell.Of(r, 1)}, "Join": {joined, cell.Join(cells[1], cells[1])},
		"Narrow": {cell.Narrow(cells[0], 5, 5), cell.Narrow(cells[0], 5, 5), cell.Narrow(cells[0], 5, 4)},
		"Group":  append(groups[:len(groups):len(groups)], cell.Group(cells)...), "Decode": back,
	}
	for what, list := range answers {
		lists := append(roomOf(list[:len(list):len(list)]...), handed...)
		for i, l := range lists {
			for j := range l {
				l[j] = i
			}
		}
		for i, l := range lists {
			for _, v := range l {
				if v != i {
					t.Fatalf("P2: %s: lists %d and %d share memory", what, i, v)
				}
			}
		}
	}
}

func TestBytesAreNewP2(t *testing.T) {
	_, s, cells := given()
	groups := cell.Group(cells)
	first, second := cell.Encode(5, groups), cell.Encode(5, groups)
	clear(second[:cap(second)])
	if !bytes.Equal(first, cell.Encode(5, groups)) {
		t.Error("P2: Encode answers the same memory twice")
	}
	_, back, _ := cell.Decode(s, first)
	clear(first)
	if !same(back, groups) {
		t.Errorf("P2: the answer keeps the bytes: %v", back)
	}
}

func TestNilIsEmptyP2(t *testing.T) {
	bare := api.Cell{Count: 2}
	empty := api.Cell{Key: []int{}, Count: 2, Sum: []int{}, Min: []int{}, Max: []int{}}
	if got := cell.Join(bare, empty); !same(got, api.Cell{Count: 4}) {
		t.Errorf("P2: Join: %v", got)
	}
	if got := cell.Group([]api.Cell{empty, bare}); !same(got, []api.Cell{{Count: 4}}) {
		t.Errorf("P2: Group: %v", got)
	}
	if a, b := cell.Encode(0, []api.Cell{bare}), cell.Encode(0, []api.Cell{empty}); len(a) != 5 || !bytes.Equal(a, b) {
		t.Errorf("P2: Encode: %q, %q", a, b)
	}
	if a, b := cell.Of(api.Row{}, 0), cell.Of(api.Row{Key: []int{}, M: []int{}}, 0); a.Count != 1 || !same(a, b) {
		t.Errorf("P2: Of: %v, %v", a, b)
	}
	if a, b := cell.Narrow(bare, 0, 0), cell.Narrow(empty, 0, 0); a.Count != 2 || !same(a, b) {
		t.Errorf("P2: Narrow: %v, %v", a, b)
	}
}

func TestSameAgainP3(t *testing.T) {
	r, s, cells := given()
	answers := func() []any {
		groups := cell.Group(cells)
		b := cell.Encode(5, groups)
		set, back, is := cell.Decode(s, b)
		return []any{cell.Of(r, 3), cell.Join(cells[0], cells[2]), cell.Narrow(cells[0], 5, 4), groups, b, set, back, is}
	}
	if a, b := answers(), answers(); !reflect.DeepEqual(a, b) {
		t.Errorf("P3: %v, then %v", a, b)
	}
}

// What may not be handed in: the calls end, and do not panic.
func TestAnyPlainDataP1(t *testing.T) {
	lists := [][]int{nil, {0}, {-1}, {math.MinInt, math.MaxInt}, {1, 2, 3, 4, 5}, make([]int, 70)}
	numbers := []int{math.MinInt, -1, 0, 1, 5, 15, 16, 1 << 62, math.MaxInt}
	var cells []api.Cell
	for i, key := range lists {
		for j, sum := range lists {
			k := (i + j) % len(lists)
			cells = append(cells, api.Cell{Key: key, Count: numbers[k], Sum: sum, Min: lists[k], Max: sum}, api.Cell{Key: key, Sum: sum, Min: sum, Max: sum})
		}
	}
	for _, a := range cells {
		for _, n := range numbers {
			cell.Of(api.Row{Key: a.Key, M: a.Sum}, n)
			cell.Encode(n, []api.Cell{a})
			for _, to := range numbers {
				cell.Narrow(a, n, to)
			}
		}
		for _, b := range cells {
			cell.Less(a.Key, b.Sum)
			cell.Join(a, b)
			cell.Group([]api.Cell{a, b})
			cell.Encode(1, []api.Cell{a, b})
		}
		for _, b := range []string{"", "\x00", "\x01\x00\x00", "\xff\xff\xff\xff"} {
			cell.Decode(api.Schema{Cards: a.Key, Measures: a.Count}, []byte(b))
		}
	}
	cell.Group(cells)
	cell.Encode(15, cells)
}
