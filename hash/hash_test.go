package hash_test

import (
	"fmt"
	"math"
	"math/rand"
	"slices"
	"testing"

	"hypercube/api"
	"hypercube/cell"
	"hypercube/hash"
)

// one is a cell of one row, of measures m.
func one(key []int, m ...int) api.Cell {
	return api.Cell{Key: key, Count: 1, Sum: slices.Clone(m), Min: slices.Clone(m), Max: slices.Clone(m)}
}

// bare are cells of one row each, of keys of one number, without measures.
func bare(keys ...int) []api.Cell {
	var cells []api.Cell
	for _, k := range keys {
		cells = append(cells, one([]int{k}))
	}
	return cells
}

// told writes what counts: no list and an empty one are the same.
func told(x any) string { return fmt.Sprint(x) }

// keyOf writes a number as so many values, the highest first.
func keyOf(n, dims int) []int {
	key := make([]int, dims)
	for i := range key {
		key[dims-1-i] = n >> (4 * i) & 15
	}
	return key
}

// tableOf puts cells, each of which must find a place.
func tableOf(t *testing.T, slots int, cells ...api.Cell) *hash.Table {
	t.Helper()
	table := hash.New(slots)
	for _, c := range cells {
		mustPut(t, table, c, true)
	}
	return table
}

func mustPut(t *testing.T, table *hash.Table, c api.Cell, want bool) {
	t.Helper()
	if got := table.Put(c); got != want {
		t.Errorf("P701: Put %v: %v", c, got)
	}
}

func mustHold(t *testing.T, table *hash.Table, want ...api.Cell) {
	t.Helper()
	if got := table.Cells(); told(got) != told(want) || table.Len() != len(want) {
		t.Errorf("P701: Cells %v, Len %d, not %v", got, table.Len(), want)
	}
	for _, c := range want {
		if got, is := table.Get(c.Key); !is || told(got) != told(c) {
			t.Errorf("P701: Get %v: %v, %v, not %v", c.Key, got, is, c)
		}
	}
}

func mustNotHave(t *testing.T, table *hash.Table, key ...int) {
	t.Helper()
	if got, is := table.Get(key); is || told(got) != told(api.Cell{}) {
		t.Errorf("P701: Get %v: %v, %v", key, got, is)
	}
}

func TestNewP701(t *testing.T) {
	for _, slots := range []int{1, 2, 300, 10000} {
		table := hash.New(slots)
		mustHold(t, table)
		for _, key := range [][]int{nil, {0}, {15}, {1, 2, 3, 4}} {
			mustNotHave(t, table, key...)
		}
	}
}

// Cells stand where the promise says, those that come later behind those that came first.
func TestPlacesP701(t *testing.T) {
	for _, x := range []struct {
		slots int
		in    []int
		want  []int
	}{
		// The place of key 0 is 218, that of 15 is 233.
		{10, []int{0, 1, 2}, []int{2, 0, 1}},
		{10, []int{2, 1, 0}, []int{2, 0, 1}},
		{16, []int{6, 5, 15, 0, 7}, []int{6, 7, 15, 0, 5}},
		{5, []int{2, 7, 12}, []int{2, 7, 12}},
		{5, []int{12, 2, 7}, []int{12, 2, 7}},
		{5, []int{1, 6, 11, 0}, []int{6, 11, 0, 1}},
		{5, []int{0, 5, 10, 15}, []int{10, 15, 0, 5}},
		{3, []int{9, 6, 3}, []int{6, 3, 9}},
		{1, []int{9}, []int{9}},
	} {
		mustHold(t, tableOf(t, x.slots, bare(x.in...)...), bare(x.want...)...)
	}
}

func TestJoinedP701(t *testing.T) {
	const most, least = math.MaxInt, math.MinInt
	table := tableOf(t, 4,
		api.Cell{Key: []int{3, 1}, Count: 4, Sum: []int{most, 5}, Min: []int{2, least}, Max: []int{most, 0}},
		api.Cell{Key: []int{3, 1}, Count: most, Sum: []int{1, -6}, Min: []int{3, 0}, Max: []int{1, 7}},
		api.Cell{Key: []int{3, 1}, Count: 1, Sum: []int{1, 0}, Min: []int{-8, 4}, Max: []int{-8, 4}},
	)
	mustHold(t, table, api.Cell{Key: []int{3, 1}, Count: least + 4, Sum: []int{least + 1, -1}, Min: []int{-8, least}, Max: []int{most, 7}})
}

// One that has its key in a full table finds place; another one does not, and leaves all as it was.
func TestFullP701(t *testing.T) {
	table := tableOf(t, 3, bare(9, 6, 3)...)
	for _, k := range []int{0, 1, 2, 15} {
		mustPut(t, table, one([]int{k}), false)
		mustNotHave(t, table, k)
	}
	mustHold(t, table, bare(6, 3, 9)...)
	for _, k := range []int{3, 9, 3, 6} {
		mustPut(t, table, one([]int{k}), true)
	}
	mustHold(t, table, api.Cell{Key: []int{6}, Count: 2}, api.Cell{Key: []int{3}, Count: 3}, api.Cell{Key: []int{9}, Count: 2})
}

// The set of no dimensions has one key.
func TestNoDimensionsP701(t *testing.T) {
	for _, slots := range []int{1, 2, 10000} {
		table := tableOf(t, slots, one(nil, 5), one([]int{}, -7))
		mustHold(t, table, api.Cell{Count: 2, Sum: []int{-2}, Min: []int{-7}, Max: []int{5}})
		mustNotHave(t, table, 0)
	}
}

// Get is asked for any key: those that no table has, too.
func TestGetOfAnyP701(t *testing.T) {
	for _, slots := range []int{1, 2, 3, 7, 10000} {
		table := tableOf(t, slots, one([]int{0, 1}, 4))
		for _, key := range [][]int{
			nil, {}, {0}, {1}, {0, 0}, {1, 0}, {0, 2}, {0, 1, 0}, {0, 1, 1, 1}, {-1}, {16}, {0, -1}, {0, 16}, {0, 17}, {-5, 99}, {1, -30}, {256, 1}, {0, 257},
			{math.MinInt, math.MaxInt}, {math.MaxInt}, {0, math.MinInt}, make([]int, 70000),
		} {
			mustNotHave(t, table, key...)
		}
		mustHold(t, table, one([]int{0, 1}, 4))
	}
}

// As many keys as a table can have; the last one may have to go far round.
func TestAsManyAsSlotsP701(t *testing.T) {
	for slots, step := range map[int]int{1: 1, 2: 7, 16: 4097, 300: 11, 9999: 5, 10000: 3} {
		table := hash.New(slots)
		for i := range slots {
			mustPut(t, table, one(keyOf(i*step%65536, 4), i), true)
			if table.Len() != i+1 {
				t.Fatalf("P701: Len %d of %d", table.Len(), i+1)
			}
		}
		mustPut(t, table, one(keyOf(slots*step%65536, 4), 1), false)
		for i := range slots {
			if c, is := table.Get(keyOf(i*step%65536, 4)); !is || c.Count != 1 || c.Sum[0] != i {
				t.Fatalf("P701: Get of %d in %d: %v, %v", i, slots, c, is)
			}
		}
	}
}

// ring is a table by the promise's words, of cells that may be none.
type ring []*api.Cell

func (r ring) at(key []int) int {
	h := 7
	for _, v := range key {
		h = (31*h + v + 1) % 1000003
	}
	for k := range r {
		if at := (h + k) % len(r); r[at] == nil || slices.Equal(r[at].Key, key) {
			return at
		}
	}
	return -1
}

func (r ring) put(c api.Cell) bool {
	at := r.at(c.Key)
	if at < 0 {
		return false
	}
	if old := r[at]; old != nil {
		c = cell.Join(*old, c)
	}
	r[at] = &c
	return true
}

func (r ring) cells() []api.Cell {
	var out []api.Cell
	for _, c := range r {
		if c != nil {
			out = append(out, *c)
		}
	}
	return out
}

// thrown are cells of one set, of few values, the lowest or the highest, so that keys meet.
func thrown(die *rand.Rand, dims, measures, count int) []api.Cell {
	var cells []api.Cell
	card, high := []int{1, 2, 3, 16}[die.Intn(4)], die.Intn(2)
	for range count {
		var key, m []int
		for range dims {
			key = append(key, (16-card)*high+die.Intn(card))
		}
		for range measures {
			m = append(m, int(die.Uint64()))
		}
		c := one(key, m...)
		c.Count = 1 + die.Intn(3)
		cells = append(cells, c)
	}
	return cells
}

func TestTablesByDiceP701(t *testing.T) {
	die := rand.New(rand.NewSource(1))
	seen := map[bool]int{}
	for range 1000 {
		slots := 1 + die.Intn(40)
		table, want := hash.New(slots), make(ring, slots)
		for _, c := range thrown(die, die.Intn(5), die.Intn(4), die.Intn(60)) {
			is := want.put(c)
			mustPut(t, table, c, is)
			seen[is]++
			if !is {
				mustNotHave(t, table, c.Key...)
			}
		}
		mustHold(t, table, want.cells()...)
		if t.Failed() {
			return
		}
	}
	if seen[true] < 1000 || seen[false] < 1000 {
		t.Errorf("the die falls to one side: %v", seen)
	}
}
