package merge_test

import (
	"fmt"
	"math"
	"math/rand"
	"slices"
	"testing"

	"hypercube/api"
	"hypercube/cell"
	"hypercube/merge"
	"hypercube/runs"
)

// one is a cell of one row, of measures m.
func one(key []int, m ...int) api.Cell {
	return api.Cell{Key: key, Count: 1, Sum: slices.Clone(m), Min: slices.Clone(m), Max: slices.Clone(m)}
}

// bare are cells of one row each, of keys of one number, without measures.
func bare(keys ...int) []api.Cell {
	var cells []api.Cell
	for _, k := range keys {
		cells = append(cells, one([]int{k}))
	}
	return cells
}

// counted are cells of keys of one number, each with its Count.
func counted(pairs ...[2]int) []api.Cell {
	var cells []api.Cell
	for _, p := range pairs {
		cells = append(cells, api.Cell{Key: []int{p[0]}, Count: p[1]})
	}
	return cells
}

// told writes what counts of cells: no list and an empty one are the same.
func told(cells any) string { return fmt.Sprint(cells) }

func mustTwo(t *testing.T, a, b, want []api.Cell) {
	t.Helper()
	if got := merge.Two(a, b); told(got) != told(want) {
		t.Errorf("P601: Two of %v, %v: %v, not %v", a, b, got, want)
	}
}

func mustMerge(t *testing.T, list [][]api.Cell, fan int, want []api.Cell, passes int) {
	t.Helper()
	if got, n := merge.Merge(list, fan); told(got) != told(want) || n != passes {
		t.Errorf("P601: Merge of %v by %d: %v, %d, not %v, %d", list, fan, got, n, want, passes)
	}
}

func TestTwoP601(t *testing.T) {
	const most, least = math.MaxInt, math.MinInt
	for _, x := range []struct{ a, b, want []api.Cell }{
		{nil, nil, nil},
		{bare(4), nil, bare(4)},
		{nil, bare(4, 9), bare(4, 9)},
		{bare(1, 2), bare(3, 4), bare(1, 2, 3, 4)},
		{bare(3, 4), bare(1, 2), bare(1, 2, 3, 4)},
		{bare(1, 3, 5), bare(2, 4, 6), bare(1, 2, 3, 4, 5, 6)},
		{bare(1, 9), bare(4, 5), bare(1, 4, 5, 9)},
		{bare(1), bare(1), counted([2]int{1, 2})},
		{bare(1, 2, 3), bare(1, 2, 3), counted([2]int{1, 2}, [2]int{2, 2}, [2]int{3, 2})},
		{bare(1, 3), bare(2, 3, 4), counted([2]int{1, 1}, [2]int{2, 1}, [2]int{3, 2}, [2]int{4, 1})},
		{bare(least, -1), bare(-1, most), counted([2]int{least, 1}, [2]int{-1, 2}, [2]int{most, 1})},
		{counted([2]int{7, most}, [2]int{8, -3}), counted([2]int{7, 1}, [2]int{8, 0}), counted([2]int{7, least}, [2]int{8, -3})},
		// the set of no dimensions: one key
		{[]api.Cell{one(nil, 2)}, []api.Cell{one([]int{}, -3)}, []api.Cell{{Count: 2, Sum: []int{-1}, Min: []int{-3}, Max: []int{2}}}},
		{[]api.Cell{one([]int{0, 15})}, []api.Cell{one([]int{0, 2}), one([]int{1, 0})}, []api.Cell{one([]int{0, 2}), one([]int{0, 15}), one([]int{1, 0})}},
	} {
		mustTwo(t, x.a, x.b, x.want)
	}
}

func TestJoinedP601(t *testing.T) {
	const most, least = math.MaxInt, math.MinInt
	a := []api.Cell{
		{Key: []int{0, 9}, Count: -1, Sum: []int{0, 0}, Min: []int{1, 1}, Max: []int{-1, -1}},
		{Key: []int{3, 1}, Count: 4, Sum: []int{most, 5}, Min: []int{2, least}, Max: []int{most, 0}},
	}
	b := []api.Cell{
		{Key: []int{3, 1}, Count: most, Sum: []int{1, -6}, Min: []int{3, 0}, Max: []int{1, 7}},
		{Key: []int{3, 2}, Count: 2, Sum: []int{8, 8}, Min: []int{3, 3}, Max: []int{5, 5}},
	}
	c := []api.Cell{{Key: []int{3, 1}, Count: 1, Sum: []int{1, 0}, Min: []int{-8, 4}, Max: []int{-8, 4}}}
	met := api.Cell{Key: []int{3, 1}, Count: least + 3, Sum: []int{least, -1}, Min: []int{2, least}, Max: []int{most, 7}}
	mustTwo(t, a, b, []api.Cell{a[0], met, b[1]})
	met = api.Cell{Key: []int{3, 1}, Count: least + 4, Sum: []int{least + 1, -1}, Min: []int{-8, least}, Max: []int{most, 7}}
	mustMerge(t, [][]api.Cell{a, b, c}, 2, []api.Cell{a[0], met, b[1]}, 2)
	mustMerge(t, [][]api.Cell{a, b, c}, 3, []api.Cell{a[0], met, b[1]}, 1)
}

// Each two lists of keys 0 to 4.
func TestTwoOfEachP601(t *testing.T) {
	of := func(bits int) (cells []api.Cell) {
		for k := range 5 {
			if bits>>k&1 == 1 {
				cells = append(cells, one([]int{k}, bits))
			}
		}
		return cells
	}
	for i := range 32 {
		for j := range 32 {
			var want []api.Cell
			for k := range 5 {
				switch in := [2]int{i >> k & 1, j >> k & 1}; in {
				case [2]int{1, 0}:
					want = append(want, one([]int{k}, i))
				case [2]int{0, 1}:
					want = append(want, one([]int{k}, j))
				case [2]int{1, 1}:
					want = append(want, api.Cell{Key: []int{k}, Count: 2, Sum: []int{i + j}, Min: []int{min(i, j)}, Max: []int{max(i, j)}})
				}
			}
			mustTwo(t, of(i), of(j), want)
		}
	}
}

// Keys of any lengths and numbers, each in two of the runs, however alike they look.
func TestKeysThatLookAlikeP601(t *testing.T) {
	rising := [][]int{
		nil, {math.MinInt}, {-12}, {-1}, {-1, 2}, {0}, {0, 0}, {0, 0, 0}, {0, 1}, {0, 256}, {1}, {1, -2}, {1, 2}, {1, 2, 3}, {1, 23},
		{2}, {2, 1}, {12}, {12, 3}, {123}, {255}, {256}, {257}, {1 << 32}, {1<<32 + 1}, {math.MaxInt},
	}
	four := make([][]api.Cell, 4)
	var want []api.Cell
	for i, key := range rising {
		four[i%4] = append(four[i%4], one(key))
		four[(i+1+i/4%3)%4] = append(four[(i+1+i/4%3)%4], one(slices.Clone(key)))
		want = append(want, api.Cell{Key: key, Count: 2})
	}
	for fan, passes := range map[int]int{2: 2, 3: 2, 4: 1, 5: 1} {
		mustMerge(t, four, fan, want, passes)
	}
	mustTwo(t, merge.Two(four[0], four[1]), merge.Two(four[2], four[3]), want)
}

func TestPassesP601(t *testing.T) {
	for _, x := range []struct{ count, fan, passes int }{
		{0, 2, 0}, {0, 9, 0}, {1, 2, 0}, {1, 9, 0}, {2, 2, 1}, {2, 3, 1}, {3, 2, 2}, {3, 3, 1}, {4, 2, 2}, {4, 3, 2}, {4, 4, 1}, {5, 2, 3}, {5, 4, 2},
		{8, 2, 3}, {9, 2, 4}, {9, 3, 2}, {10, 3, 3}, {16, 4, 2}, {17, 4, 3}, {64, 2, 6}, {65, 2, 7}, {65, 64, 2}, {65, 65, 1},
		{300, 2, 9}, {300, 299, 2}, {300, 300, 1}, {0, math.MaxInt, 0}, {1, math.MaxInt, 0}, {2, math.MaxInt, 1}, {300, math.MaxInt, 1}, {300, math.MaxInt - 1, 1},
	} {
		// A run of no cells is a run, too.
		mustMerge(t, make([][]api.Cell, x.count), x.fan, nil, x.passes)
		var apart, met [][]api.Cell
		var all, whole []api.Cell
		for i := range x.count {
			apart = append(apart, bare(x.count-i))
			all = append(all, one([]int{i + 1}))
			met = append(met, bare(5))
			whole = counted([2]int{5, i + 1})
		}
		mustMerge(t, apart, x.fan, all, x.passes)
		mustMerge(t, met, x.fan, whole, x.passes)
	}
	mustMerge(t, [][]api.Cell{nil, bare(2), nil, bare(1), nil}, 2, bare(1, 2), 3)
	mustMerge(t, [][]api.Cell{bare(1, 2, 3)}, 2, bare(1, 2, 3), 0)
}

// P601 names cells that are sorted, no more: those that meet no other may have any measures.
func TestCellsThatMeetNoneP601(t *testing.T) {
	odd := []api.Cell{{Key: []int{1}, Sum: []int{4}}, {Key: []int{3}, Min: []int{1, 2}, Max: []int{7}}, {Key: []int{5}, Count: -9}}
	even := []api.Cell{one([]int{2}, 5), one([]int{4}, 6, 7)}
	all := []api.Cell{odd[0], even[0], odd[1], even[1], odd[2]}
	mustTwo(t, odd, even, all)
	mustTwo(t, even, odd, all)
	mustMerge(t, [][]api.Cell{odd}, 2, odd, 0)
	mustMerge(t, [][]api.Cell{even, odd}, 2, all, 1)
	mustMerge(t, [][]api.Cell{even[1:], odd, nil, even[:1]}, 3, all, 2)
}

// thrown are cells of one set, of few values, so that keys meet.
func thrown(die *rand.Rand, dims, measures, count int) []api.Cell {
	var cells []api.Cell
	card := 1 + die.Intn(4)
	for range count {
		var key, m []int
		for range dims {
			key = append(key, die.Intn(card))
		}
		for range measures {
			m = append(m, int(die.Uint64()))
		}
		c := one(key, m...)
		c.Count = 1 + die.Intn(3)
		cells = append(cells, c)
	}
	return cells
}

// twoByHand makes one of two lists by the promise's words, over a list that is looked through.
func twoByHand(a, b []api.Cell) []api.Cell {
	out := slices.Clone(a)
	for _, c := range b {
		i := slices.IndexFunc(out, func(h api.Cell) bool { return slices.Equal(h.Key, c.Key) })
		if i < 0 {
			out = append(out, c)
			continue
		}
		h := api.Cell{Key: c.Key, Count: out[i].Count + c.Count}
		for m := range c.Sum {
			h.Sum = append(h.Sum, out[i].Sum[m]+c.Sum[m])
			h.Min = append(h.Min, min(out[i].Min[m], c.Min[m]))
			h.Max = append(h.Max, max(out[i].Max[m], c.Max[m]))
		}
		out[i] = h
	}
	slices.SortFunc(out, func(a, b api.Cell) int { return slices.Compare(a.Key, b.Key) })
	return out
}

// byHand makes runs one by the promise's words.
func byHand(list [][]api.Cell, fan int) (cells []api.Cell, passes int) {
	for ; len(list) > 1; passes++ {
		var next [][]api.Cell
		for at := 0; at < len(list); at += fan {
			sum := list[at]
			for _, run := range list[at+1 : min(at+fan, len(list))] {
				sum = twoByHand(sum, run)
			}
			next = append(next, sum)
		}
		list = next
	}
	for _, run := range list {
		cells = run
	}
	return cells, passes
}

// T1: however runs were made, and however many at a time are made one, it is the group-by.
func TestMergeByDiceP601(t *testing.T) {
	die := rand.New(rand.NewSource(1))
	seen := map[int]int{}
	for range 2000 {
		cells := thrown(die, die.Intn(5), die.Intn(4), die.Intn(60))
		list := runs.Runs(cells, 1+die.Intn(7))
		if die.Intn(3) == 0 {
			list = slices.Insert(list, die.Intn(len(list)+1), nil)
		}
		fan := 2 + die.Intn(8)
		want, passes := byHand(list, fan)
		mustMerge(t, list, fan, want, passes)
		got, _ := merge.Merge(list, fan)
		if told(got) != told(cell.Group(cells)) || !runs.Sorted(got) {
			t.Errorf("T1: of %v by %d: %v", cells, fan, got)
		}
		for i := 1; i < len(list); i++ {
			mustTwo(t, list[i-1], list[i], twoByHand(list[i-1], list[i]))
		}
		seen[passes]++
		if t.Failed() {
			return
		}
	}
	for passes := range 6 {
		if seen[passes] < 10 {
			t.Errorf("the die falls to one side: %v", seen)
		}
	}
}

// What is long ends, too.
func TestManyRunsP601(t *testing.T) {
	const count, keys = 1 << 17, 70001
	var list [][]api.Cell
	var want []api.Cell
	for i := range count {
		list = append(list, bare(i*7919%keys))
	}
	for k := range keys {
		want = append(want, api.Cell{Key: []int{k}})
	}
	for i := range count {
		want[i*7919%keys].Count++
	}
	for fan, passes := range map[int]int{2: 17, 1000: 2, count - 1: 2, count: 1, math.MaxInt: 1} {
		got, n := merge.Merge(list, fan)
		if told(got) != told(want) || n != passes {
			t.Errorf("P601: of %d runs by %d: %d cells, %d passes", count, fan, len(got), n)
		}
	}
}
