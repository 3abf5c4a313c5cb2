package exec_test

import (
	"fmt"
	"math"
	"math/rand"
	"slices"
	"testing"

	"hypercube/api"
	"hypercube/exec"
)

// one is a cell of one row, of measures m.
func one(key []int, m ...int) api.Cell {
	return api.Cell{Key: key, Count: 1, Sum: slices.Clone(m), Min: slices.Clone(m), Max: slices.Clone(m)}
}

// keys are cells of one row each, without measures.
func keys(list ...[]int) []api.Cell {
	var cells []api.Cell
	for _, key := range list {
		cells = append(cells, one(key))
	}
	return cells
}

// bare are keys of one number.
func bare(list ...int) []api.Cell {
	var cells []api.Cell
	for _, v := range list {
		cells = append(cells, one([]int{v}))
	}
	return cells
}

// told writes what counts: no list and an empty one are the same.
func told(x any) string { return fmt.Sprint(x) }

func mustMake(t *testing.T, from []api.Cell, parent, set, budget, algorithm int, want []api.Cell, high int) {
	t.Helper()
	got, e := exec.One(from, parent, set, budget, algorithm)
	if e != api.OK || told(got.Cells) != told(want) || got.High != high {
		t.Errorf("P1201: One of %v, %d to %d, budget %d, algorithm %d: %v, %v, not %v, %d", from, parent, set, budget, algorithm, got, e, want, high)
	}
}

// mustBoth makes a set's cells by either algorithm.
func mustBoth(t *testing.T, from []api.Cell, parent, set, budget int, want []api.Cell, sortHigh, hashHigh int) {
	t.Helper()
	mustMake(t, from, parent, set, budget, api.BySort, want, sortHigh)
	mustMake(t, from, parent, set, budget, api.ByHash, want, hashHigh)
}

// narrowByHand has a key's values one by one.
func narrowByHand(key []int, parent, set int) []int {
	var out []int
	at := 0
	for d := range api.MaxDims {
		if parent>>d%2 == 0 {
			continue
		}
		if set>>d%2 == 1 {
			out = append(out, key[at])
		}
		at++
	}
	return out
}

// groupByHand finds each cell's place among those that there are.
func groupByHand(from []api.Cell, parent, set int) []api.Cell {
	var out []api.Cell
	for _, c := range from {
		key := narrowByHand(c.Key, parent, set)
		at := slices.IndexFunc(out, func(o api.Cell) bool { return slices.Equal(o.Key, key) })
		if at < 0 {
			out = append(out, api.Cell{Key: key, Count: c.Count, Sum: slices.Clone(c.Sum), Min: slices.Clone(c.Min), Max: slices.Clone(c.Max)})
			continue
		}
		out[at].Count += c.Count
		for m := range c.Sum {
			out[at].Sum[m] += c.Sum[m]
			out[at].Min[m] = min(out[at].Min[m], c.Min[m])
			out[at].Max[m] = max(out[at].Max[m], c.Max[m])
		}
	}
	slices.SortFunc(out, func(a, b api.Cell) int { return slices.Compare(a.Key, b.Key) })
	return out
}

// sortHighByHand goes cell by cell: what is held, how many runs went out, how great the greatest was.
func sortHighByHand(narrow [][]int, budget int) int {
	held := map[string]int{}
	runs, high := 0, 0
	for _, key := range narrow {
		if _, is := held[told(key)]; !is && len(held) == budget {
			runs++
			clear(held)
		}
		held[told(key)]++
		high = max(high, len(held))
	}
	if len(held) > 0 {
		runs++
	}
	if runs > 1 {
		high = max(high, min(budget-1, runs)+1)
	}
	return high
}

// hashHighByHand parts keys, alike ones too, in the order in which they come.
func hashHighByHand(narrow [][]int, slots, position int) int {
	held := map[string]int{}
	for _, key := range narrow {
		held[told(key)]++
	}
	if len(held) <= slots {
		return len(held)
	}
	high := 0
	for v := range api.MaxCard {
		var some [][]int
		for _, key := range narrow {
			if key[position] == v {
				some = append(some, key)
			}
		}
		high = max(high, hashHighByHand(some, slots, position+1))
	}
	return high
}

// mustBeByHand holds both algorithms against what they come to by hand.
func mustBeByHand(t *testing.T, from []api.Cell, parent, set, budget int) (sortHigh, hashHigh int) {
	t.Helper()
	var narrow [][]int
	for _, c := range from {
		narrow = append(narrow, narrowByHand(c.Key, parent, set))
	}
	sortHigh, hashHigh = sortHighByHand(narrow, budget), hashHighByHand(narrow, min(budget, 10000), 0)
	if sortHigh > budget || hashHigh > budget {
		t.Errorf("P1202: budget %d: %d, %d by hand", budget, sortHigh, hashHigh)
	}
	mustBoth(t, from, parent, set, budget, groupByHand(from, parent, set), sortHigh, hashHigh)
	return sortHigh, hashHigh
}

// keyOf writes a number as so many values, the highest first.
func keyOf(n, dims int) []int {
	key := make([]int, dims)
	for i := range key {
		key[dims-1-i] = n >> (4 * i) & 15
	}
	return key
}

func TestOfNothingP1201(t *testing.T) {
	for parent := range 16 {
		for set := range parent + 1 {
			if set&parent != set {
				continue
			}
			for _, budget := range []int{3, 4, 10000, 10001, math.MaxInt} {
				mustBoth(t, nil, parent, set, budget, nil, 0, 0)
			}
		}
	}
}

func TestHighP1201(t *testing.T) {
	for _, x := range []struct {
		in                     []int
		budget, bySort, byHash int
	}{
		{[]int{5}, 3, 1, 1},
		{[]int{5, 5, 5, 5, 5}, 3, 1, 1},
		{[]int{5, 4}, 3, 2, 2},
		{[]int{5, 4, 5, 4, 4}, 3, 2, 2},
		{[]int{5, 4, 6}, 3, 3, 3},
		{[]int{5, 4, 6, 6, 4, 5}, 3, 3, 3},
		// One more than the budget: two runs, and as many parts as keys.
		{[]int{5, 4, 6, 0}, 3, 3, 1},
		{[]int{5, 4, 6, 0}, 4, 4, 4},
		{[]int{5, 4, 6, 0}, 5, 4, 4},
		{[]int{5, 4, 6, 0}, math.MaxInt, 4, 4},
		{[]int{0, 1, 2, 3, 4, 5, 6, 7, 8, 9, 10, 11, 12, 13, 14, 15}, 3, 3, 1},
		{[]int{0, 1, 2, 3, 4, 5, 6, 7, 8, 9, 10, 11, 12, 13, 14, 15}, 15, 15, 1},
		{[]int{0, 1, 2, 3, 4, 5, 6, 7, 8, 9, 10, 11, 12, 13, 14, 15}, 16, 16, 16},
		{[]int{0, 1, 2, 3, 4, 5, 6, 7, 8, 9, 10, 11, 12, 13, 14, 15}, 17, 16, 16},
	} {
		cells := bare(x.in...)
		for _, set := range []int{1, 2, 4, 8} {
			mustBoth(t, cells, set, set, x.budget, groupByHand(cells, 1, 1), x.bySort, x.byHash)
			mustBoth(t, cells, set, 0, x.budget, []api.Cell{{Count: len(x.in)}}, 1, 1)
		}
	}
}

// By hashing, a part's cells count alone: here some of a value at the first position find place together, others do not.
func TestHighOfPartsP1201(t *testing.T) {
	cells := keys([]int{2, 9, 1}, []int{2, 9, 0}, []int{0, 3, 3}, []int{2, 8, 1}, []int{2, 8, 0}, []int{2, 9, 1}, []int{0, 3, 4}, []int{1, 1, 1})
	for _, x := range []struct{ set, budget, bySort, byHash int }{
		{7, 3, 3, 2}, // 0: two, 1: one, 2: four, which are two and two
		{7, 4, 4, 4},
		{7, 5, 5, 4},
		{7, 6, 6, 4},
		{7, 7, 7, 7},
		{7, 8, 7, 7},
		{3, 3, 3, 2},
		{3, 4, 4, 4},
		{5, 3, 3, 2},
		{5, 4, 4, 2},
		{5, 5, 5, 5},
		{6, 3, 3, 2}, // keys by 1, 3, 8, 9: one, two, two, two
		{6, 7, 7, 7},
		{1, 3, 3, 3}, {2, 3, 3, 1}, {4, 3, 3, 1}, {4, 4, 4, 4}, {0, 3, 1, 1},
	} {
		mustBoth(t, cells, 7, x.set, x.budget, groupByHand(cells, 7, x.set), x.bySort, x.byHash)
		mustBeByHand(t, cells, 7, x.set, x.budget)
	}
}

// By sorting, it hangs on the order in which keys come how many runs there are; by hashing it does not.
func TestHighOfRunsP1201(t *testing.T) {
	for _, x := range []struct {
		in     []int
		bySort int
	}{
		{[]int{1, 2, 3, 1, 2, 3}, 3}, {[]int{1, 1, 2, 2, 3, 3}, 3}, {[]int{1, 2, 1, 2, 1, 2}, 2}, {[]int{1, 2, 3, 4, 1, 2, 3, 4}, 3},
	} {
		cells := bare(x.in...)
		mustMake(t, cells, 8, 8, 3, api.BySort, groupByHand(cells, 8, 8), x.bySort)
	}
}

// A cell has the values of the set's dimensions alone, in their order.
func TestNarrowedP1201(t *testing.T) {
	for _, x := range []struct {
		key         []int
		parent, set int
		want        []int
	}{
		{[]int{4, 5, 6, 7}, 15, 15, []int{4, 5, 6, 7}}, {[]int{4, 5, 6, 7}, 15, 14, []int{5, 6, 7}}, {[]int{4, 5, 6, 7}, 15, 7, []int{4, 5, 6}},
		{[]int{4, 5, 6, 7}, 15, 10, []int{5, 7}}, {[]int{4, 5, 6, 7}, 15, 8, []int{7}}, {[]int{4, 5, 6, 7}, 15, 0, nil},
		{[]int{4, 5, 6}, 11, 9, []int{4, 6}}, {[]int{4, 5, 6}, 11, 8, []int{6}}, {[]int{4, 5, 6}, 11, 2, []int{5}}, {[]int{4, 5, 6}, 14, 12, []int{5, 6}},
		{[]int{4, 5}, 12, 4, []int{4}}, {[]int{4, 5}, 12, 8, []int{5}}, {[]int{4}, 8, 8, []int{4}}, {[]int{15}, 4, 4, []int{15}}, {nil, 0, 0, nil},
	} {
		cell := one(x.key, -3, 8)
		mustBoth(t, []api.Cell{cell}, x.parent, x.set, 3, []api.Cell{one(x.want, -3, 8)}, 1, 1)
	}
}

// Cells that meet are joined, in whichever run, round, as int goes.
func TestJoinedP1202(t *testing.T) {
	const most, least = math.MaxInt, math.MinInt
	cells := []api.Cell{
		{Key: []int{3, 1}, Count: 4, Sum: []int{most, 5}, Min: []int{2, least}, Max: []int{most, 0}},
		{Key: []int{0, 9}, Count: 7, Sum: []int{0, 0}, Min: []int{1, 1}, Max: []int{-1, -1}},
		{Key: []int{1, 9}, Count: 2, Sum: []int{8, 8}, Min: []int{3, 3}, Max: []int{5, 5}},
		{Key: []int{2, 0}, Count: 1, Sum: []int{6, -6}, Min: []int{6, -6}, Max: []int{6, -6}},
		{Key: []int{3, 1}, Count: 1, Sum: []int{1, -6}, Min: []int{-8, 4}, Max: []int{-8, 4}},
	}
	met := api.Cell{Key: []int{3, 1}, Count: 5, Sum: []int{least, -1}, Min: []int{-8, least}, Max: []int{most, 4}}
	mustBoth(t, cells, 3, 3, 3, []api.Cell{cells[1], cells[2], cells[3], met}, 3, 1)
	mustBoth(t, cells, 3, 3, 4, []api.Cell{cells[1], cells[2], cells[3], met}, 4, 4)
	by := []api.Cell{
		{Key: []int{0}, Count: 1, Sum: []int{6, -6}, Min: []int{6, -6}, Max: []int{6, -6}},
		{Key: []int{1}, Count: 5, Sum: []int{least, -1}, Min: []int{-8, least}, Max: []int{most, 4}},
		{Key: []int{9}, Count: 9, Sum: []int{8, 8}, Min: []int{1, 1}, Max: []int{5, 5}},
	}
	mustBoth(t, cells, 3, 2, 3, by, 3, 3)
	all := api.Cell{Count: 15, Sum: []int{least + 14, 1}, Min: []int{-8, least}, Max: []int{most, 5}}
	mustBoth(t, cells, 3, 0, 3, []api.Cell{all}, 1, 1)
}

// Errors in the order in which they are named; no other one comes ahead of them.
func TestErrorsP1201(t *testing.T) {
	good, bad := bare(1, 2), keys([]int{1, 2}, []int{77})
	for _, x := range []struct {
		budget, algorithm int
		want              api.Errno
	}{
		{3, 2, api.BadConfig}, {3, -1, api.BadConfig}, {300, math.MaxInt, api.BadConfig}, {300, math.MinInt, api.BadConfig},
		{2, 2, api.BadConfig}, {2, -1, api.BadConfig}, {-1, 7, api.BadConfig}, {math.MinInt, 256, api.BadConfig}, {0, 1 << 32, api.BadConfig},
		{2, api.BySort, api.TooSmall}, {2, api.ByHash, api.TooSmall}, {1, api.BySort, api.TooSmall}, {0, api.ByHash, api.TooSmall},
		{-1, api.BySort, api.TooSmall}, {-3, api.ByHash, api.TooSmall}, {math.MinInt, api.BySort, api.TooSmall}, {math.MinInt, api.ByHash, api.TooSmall},
		{3, api.BySort, api.OK}, {3, api.ByHash, api.OK}, {math.MaxInt, api.BySort, api.OK}, {math.MaxInt, api.ByHash, api.OK},
	} {
		if x.want == api.OK {
			mustMake(t, good, 1, 1, x.budget, x.algorithm, good, 2)
			continue
		}
		for _, cells := range [][]api.Cell{nil, good, bad} {
			mustRefuse(t, cells, 1, 1, x.budget, x.algorithm, x.want)
			mustRefuse(t, cells, 1, 2, x.budget, x.algorithm, x.want)
			mustRefuse(t, cells, -1, 16, x.budget, x.algorithm, x.want)
		}
	}
}

func mustRefuse(t *testing.T, from []api.Cell, parent, set, budget, algorithm int, want api.Errno) {
	t.Helper()
	if got, e := exec.One(from, parent, set, budget, algorithm); e != want || got.Cells != nil || got.High != 0 {
		t.Errorf("P1201: One of %v, %d to %d, budget %d, algorithm %d: %v, %v, not %v", from, parent, set, budget, algorithm, got, e, want)
	}
}

// thrown are so many cells of a set, as a cuboid has them or not, with any numbers.
func thrown(die *rand.Rand, set, values, measures, count int) []api.Cell {
	var cells []api.Cell
	for range count {
		var key []int
		for d := range api.MaxDims {
			if set>>d%2 == 1 {
				key = append(key, die.Intn(values))
			}
		}
		c := api.Cell{Key: key, Count: 1 + die.Intn(5)}
		for range measures {
			low, high := int(die.Uint64()), int(die.Uint64())
			c.Sum, c.Min, c.Max = append(c.Sum, int(die.Uint64())), append(c.Min, min(low, high)), append(c.Max, max(low, high))
		}
		cells = append(cells, c)
	}
	if die.Intn(2) == 0 {
		return groupByHand(cells, set, set)
	}
	return cells
}

func TestOneByDiceP1202(t *testing.T) {
	die := rand.New(rand.NewSource(21))
	full, fewer, differ := 0, 0, 0
	for range 3000 {
		parent := die.Intn(16)
		set := parent & (die.Intn(16) | die.Intn(16))
		budget := 3 + die.Intn(1+die.Intn(40))
		cells := thrown(die, parent, 1+die.Intn(16), die.Intn(4), die.Intn(60))
		bySort, byHash := mustBeByHand(t, cells, parent, set, budget)
		if bySort == budget {
			full++
		} else {
			fewer++
		}
		if bySort != byHash {
			differ++
		}
		if t.Failed() {
			return
		}
	}
	if full < 500 || fewer < 500 || differ < 500 {
		t.Errorf("the die falls to one side: %d, %d, %d", full, fewer, differ)
	}
}

// Of 300 cells, by each budget.
func TestEachBudgetP1202(t *testing.T) {
	die := rand.New(rand.NewSource(22))
	for _, set := range []int{15, 11, 6, 8, 0} {
		cells := make([]api.Cell, 0, 300)
		for i := range 300 {
			cells = append(cells, one(keyOf(i*7919%65536, 4), die.Intn(9)))
		}
		for budget := 3; budget <= 302; budget++ {
			mustBeByHand(t, cells, 15, set, budget)
		}
	}
}

// A table has no more slots than may be, whatever the budget.
func TestGreatBudgetsP1201(t *testing.T) {
	var cells []api.Cell
	for i := range 300 {
		cells = append(cells, one(keyOf(i*211%4096, 3), i))
	}
	for _, budget := range []int{301, 9999, 10000, 10001, 1 << 31, 1 << 62, math.MaxInt - 1, math.MaxInt} {
		mustBoth(t, cells, 7, 7, budget, groupByHand(cells, 7, 7), 300, 300)
		mustBoth(t, cells, 7, 1, budget, groupByHand(cells, 7, 1), 16, 16)
	}
}

// One dimension after another, in whichever order, by whichever algorithm: it comes to what the facts come to.
func TestByWayOfOthersP1202(t *testing.T) {
	die := rand.New(rand.NewSource(23))
	for range 200 {
		facts := thrown(die, 15, 1+die.Intn(6), 2, 40)
		cells, set := facts, 15
		for _, d := range die.Perm(4) {
			less := set &^ (1 << d)
			m, e := exec.One(cells, set, less, 3+die.Intn(20), die.Intn(2))
			if e != api.OK {
				t.Fatalf("P1202: %d of %d: %v", less, set, e)
			}
			cells, set = m.Cells, less
			if want := groupByHand(facts, 15, set); told(cells) != told(want) {
				t.Fatalf("P1202: %d: %v, not %v", set, cells, want)
			}
		}
	}
}
