package sorts_test

import (
	"math"
	"math/rand"
	"slices"
	"strconv"
	"testing"

	"hypercube/api"
	"hypercube/sorts"
)

// scan, sort, first are edges in few words.
func scan(set, parent int) api.Edge { return api.Edge{Set: set, Parent: parent, Scan: true} }

func sort(set, parent int) api.Edge { return api.Edge{Set: set, Parent: parent} }

func first(set int) api.Edge { return api.Edge{Set: set, Parent: -1} }

// setsOf has the sets in a plan's order, by hand.
var setsOf = [5][]int{
	1: {1, 0},
	2: {3, 1, 2, 0},
	3: {7, 3, 5, 6, 1, 2, 4, 0},
	4: {15, 7, 11, 13, 14, 3, 5, 6, 9, 10, 12, 1, 2, 4, 8, 0},
}

// parentsByHand answers, rising, the sets that have one dimension more.
func parentsByHand(set, dims int) (parents []int) {
	for d := range dims {
		if set>>d%2 == 0 {
			parents = append(parents, set+1<<d)
		}
	}
	return parents
}

func sizeByHand(s api.Schema, rows, set int) int {
	keys := 1
	for d, card := range s.Cards {
		if set>>d%2 == 1 {
			keys *= card
		}
	}
	return min(keys, rows)
}

// costByHand is what one edge costs.
func costByHand(s api.Schema, rows int, e api.Edge) int {
	size := sizeByHand(s, rows, e.Parent)
	if e.Scan || size == 0 {
		return size
	}
	return size * (1 + len(strconv.FormatInt(int64(size), 2)))
}

// sumByHand is what edges cost, but for one without a parent.
func sumByHand(s api.Schema, rows int, edges []api.Edge) (sum int) {
	for _, e := range edges {
		if e.Parent >= 0 {
			sum += costByHand(s, rows, e)
		}
	}
	return sum
}

// rightByHand judges a plan by the promise's words.
func rightByHand(plan []api.Edge, dims int) bool {
	if dims < 1 || dims > 4 || len(plan) != 1<<dims {
		return false
	}
	scans := map[int]int{}
	for i, e := range plan {
		parents := parentsByHand(setsOf[dims][i], dims)
		if i == 0 {
			parents = []int{-1}
		}
		if e.Set != setsOf[dims][i] || !slices.Contains(parents, e.Parent) || i == 0 && e.Scan {
			return false
		}
		if e.Scan {
			scans[e.Parent]++
		}
		if scans[e.Parent] > 1 {
			return false
		}
	}
	return true
}

// someSchema is chosen by a die that always falls alike; few cards make costs alike.
func someSchema(die *rand.Rand) api.Schema {
	s := api.Schema{Measures: die.Intn(3)}
	cards := 1 + die.Intn([]int{2, 5, 16}[die.Intn(3)])
	for range 1 + die.Intn(4) {
		s.Cards = append(s.Cards, 1+die.Intn(cards))
	}
	return s
}

// somePlan is a right one: it scans as often as it may, if it would.
func somePlan(die *rand.Rand, dims int) []api.Edge {
	plan := []api.Edge{first(1<<dims - 1)}
	scanned := map[int]bool{}
	for _, set := range setsOf[dims][1:] {
		parents := parentsByHand(set, dims)
		e := sort(set, parents[die.Intn(len(parents))])
		e.Scan = !scanned[e.Parent] && die.Intn(3) > 0
		scanned[e.Parent] = scanned[e.Parent] || e.Scan
		plan = append(plan, e)
	}
	return plan
}

func mustPlan(t *testing.T, s api.Schema, rows int, want ...api.Edge) {
	t.Helper()
	if got := sorts.Plan(s, rows); !slices.Equal(got, want) {
		t.Errorf("P1001: Plan of %v, %d rows: %v, not %v", s, rows, got, want)
	}
}

func mustCost(t *testing.T, s api.Schema, rows int, plan []api.Edge, want int) {
	t.Helper()
	if got := sorts.Cost(s, rows, plan); got != want {
		t.Errorf("P1002: Cost of %v, %d rows, %v: %d, not %d", s, rows, plan, got, want)
	}
}

func mustJudge(t *testing.T, plan []api.Edge, dims int, want bool) {
	t.Helper()
	if got := sorts.Right(plan, dims); got != want {
		t.Errorf("P1002: Right of %v, %d: %v", plan, dims, got)
	}
}

func sameOrders(a, b [][]int) bool { return slices.EqualFunc(a, b, slices.Equal[[]int]) }

func mustOrder(t *testing.T, plan []api.Edge, dims int, want ...[]int) {
	t.Helper()
	if got := sorts.Orders(plan, dims); !sameOrders(got, want) {
		t.Errorf("P1002: Orders of %v, %d: %v, not %v", plan, dims, got, want)
	}
}

func TestPlanP1001(t *testing.T) {
	for _, x := range []struct {
		cards []int
		rows  int
		want  []api.Edge
	}{
		{[]int{4}, 9, []api.Edge{first(1), scan(0, 1)}}, // the example
		{[]int{1}, 300, []api.Edge{first(1), scan(0, 1)}},
		// Of 1 and 2 one can scan 3: the first one. Then 0 scans the lesser of them, the first one, if they are alike.
		{[]int{4, 3}, 100, []api.Edge{first(3), scan(1, 3), sort(2, 3), scan(0, 2)}},
		{[]int{3, 4}, 100, []api.Edge{first(3), scan(1, 3), sort(2, 3), scan(0, 1)}},
		{[]int{4, 4}, 100, []api.Edge{first(3), scan(1, 3), sort(2, 3), scan(0, 1)}},
		{[]int{5, 4}, 4, []api.Edge{first(3), scan(1, 3), sort(2, 3), scan(0, 1)}},
		{[]int{5, 4}, 5, []api.Edge{first(3), scan(1, 3), sort(2, 3), scan(0, 2)}},
		// There are two ways to scan 3, 5 and 6 once each: the first one.
		{[]int{2, 3, 4}, 300, []api.Edge{first(7), scan(3, 7), sort(5, 7), sort(6, 7), scan(1, 3), scan(2, 6), scan(4, 5), scan(0, 1)}},
		// To sort 3 (3 and 3 times 2) costs less than to scan 6 (48).
		{[]int{1, 3, 16}, 300, []api.Edge{first(7), scan(3, 7), sort(5, 7), sort(6, 7), scan(1, 3), sort(2, 3), scan(4, 5), scan(0, 1)}},
		{[]int{2, 1, 16}, 300, []api.Edge{first(7), scan(3, 7), sort(5, 7), sort(6, 7), scan(1, 3), sort(2, 3), scan(4, 6), scan(0, 2)}},
	} {
		mustPlan(t, api.Schema{Cards: x.cards, Measures: 1}, x.rows, x.want...)
	}
}

// All sets of the levels below the first have 10 cells: only the order of sets and columns tells.
func TestPlanOfAllAlikeP1001(t *testing.T) {
	mustPlan(t, api.Schema{Cards: []int{16, 16, 16, 16}, Measures: 2}, 10,
		first(15),
		scan(7, 15), sort(11, 15), sort(13, 15), sort(14, 15),
		scan(3, 7), scan(5, 13), scan(6, 14), scan(9, 11), sort(10, 11), sort(12, 13),
		scan(1, 3), scan(2, 6), scan(4, 5), scan(8, 9),
		scan(0, 1))
}

// Of no rows nothing costs anything, but what can't be: whose turn it is takes the first column that lets the others have theirs.
func TestPlanOfNoRowsP1001(t *testing.T) {
	mustPlan(t, api.Schema{Cards: []int{16}}, 0, first(1), scan(0, 1))
	mustPlan(t, api.Schema{Cards: []int{4, 3}}, 0, first(3), scan(1, 3), sort(2, 3), scan(0, 1))
	mustPlan(t, api.Schema{Cards: []int{4, 3, 2}}, 0, first(7), scan(3, 7), sort(5, 7), sort(6, 7), scan(1, 3), scan(2, 6), scan(4, 5), scan(0, 1))
	mustPlan(t, api.Schema{Cards: []int{4, 3, 2, 1}}, 0,
		first(15),
		scan(7, 15), sort(11, 15), sort(13, 15), sort(14, 15),
		scan(3, 7), scan(5, 13), scan(6, 14), scan(9, 11), sort(10, 11), sort(12, 13),
		scan(1, 3), scan(2, 6), scan(4, 5), scan(8, 9),
		scan(0, 1))
}

// levelByHand answers the first of the cheapest ways to make sets, by trying all, in the columns' order: the parents to be scanned, then the one to be sorted.
func levelByHand(s api.Schema, rows int, sets []int) (best []api.Edge) {
	dims := len(s.Cards)
	least := math.MaxInt
	var now []api.Edge
	var try func()
	try = func() {
		if len(now) == len(sets) {
			if sum := sumByHand(s, rows, now); sum < least {
				best, least = slices.Clone(now), sum
			}
			return
		}
		set := sets[len(now)]
		parents := parentsByHand(set, dims)
		var ways []api.Edge
		own := sort(set, parents[0])
		for _, p := range parents {
			if !slices.ContainsFunc(now, func(e api.Edge) bool { return e.Scan && e.Parent == p }) {
				ways = append(ways, scan(set, p))
			}
			if costByHand(s, rows, sort(set, p)) < costByHand(s, rows, own) {
				own = sort(set, p)
			}
		}
		for _, e := range append(ways, own) {
			now = append(now, e)
			try()
			now = now[:len(now)-1]
		}
	}
	try()
	return best
}

// planByHand has no use for columns that can't be.
func planByHand(s api.Schema, rows int) []api.Edge {
	dims := len(s.Cards)
	plan := []api.Edge{first(1<<dims - 1)}
	for rest := setsOf[dims][1:]; len(rest) > 0; {
		count := 1
		for count < len(rest) && len(parentsByHand(rest[count], dims)) == len(parentsByHand(rest[0], dims)) {
			count++
		}
		plan = append(plan, levelByHand(s, rows, rest[:count])...)
		rest = rest[count:]
	}
	return plan
}

func TestPlanByDiceP1001(t *testing.T) {
	die := rand.New(rand.NewSource(1))
	lower, others := 0, 0
	for range 4000 {
		s, rows := someSchema(die), die.Intn(1+die.Intn(301))
		want := planByHand(s, rows)
		mustPlan(t, s, rows, want...)
		dims := len(s.Cards)
		for _, e := range want[1:] {
			parents := parentsByHand(e.Set, dims)
			if !e.Scan && dims > 2 && len(parents) == dims-1 {
				lower++ // one dimension is sorted, though its parent could have been scanned
			}
			if !e.Scan && e.Parent != parents[0] {
				others++
			}
		}
	}
	if lower < 100 || others < 100 {
		t.Errorf("the die falls to one side: %d, %d", lower, others)
	}
}

func TestPlanOfAnyRowsP1001(t *testing.T) {
	for _, cards := range [][]int{{16}, {7, 9}, {16, 2, 5}, {3, 1, 16, 4}, {16, 16, 16, 16}, {1, 1, 1, 1}} {
		s := api.Schema{Cards: cards, Measures: 2}
		for rows := range 301 {
			mustPlan(t, s, rows, planByHand(s, rows)...)
		}
	}
}

// A plan does not hang on measures.
func TestMeasuresP1001(t *testing.T) {
	want := []api.Edge{first(3), scan(1, 3), sort(2, 3), scan(0, 2)}
	for measures := range 3 {
		mustPlan(t, api.Schema{Cards: []int{4, 3}, Measures: measures}, 100, want...)
		mustCost(t, api.Schema{Cards: []int{4, 3}, Measures: measures}, 100, want, 12+60+3)
	}
}

func TestCostP1002(t *testing.T) {
	s := api.Schema{Cards: []int{4, 3}, Measures: 1}
	for _, x := range []struct {
		rows, one, two, none, want int // none of them with a parent's number below 0: that one is scanned
	}{
		{100, -3, 3, -1, 12 + 60 + 4},
		{100, -3, 3, -2, 12 + 60 + 3},
		{100, 3, -3, -1, 60 + 12 + 4},
		{100, 3, 3, 1, 60 + 60 + 16},
		{100, 3, 3, 2, 60 + 60 + 9},
		{12, -3, 3, -1, 12 + 60 + 4},
		{11, -3, 3, -1, 11 + 55 + 4},
		{8, -3, 3, -1, 8 + 40 + 4},
		{7, -3, 3, -1, 7 + 28 + 4},
		{3, -3, 3, -1, 3 + 9 + 3},
		{1, -3, 3, -1, 1 + 2 + 1},
		{1, 3, 3, 2, 2 + 2 + 2},
		{0, -3, 3, -1, 0},
		{0, 3, 3, 2, 0},
		{300, 3, 3, 2, 60 + 60 + 9},
	} {
		edge := func(set, parent int) api.Edge {
			return api.Edge{Set: set, Parent: max(parent, -parent), Scan: parent < 0}
		}
		mustCost(t, s, x.rows, []api.Edge{first(3), edge(1, x.one), edge(2, x.two), edge(0, x.none)}, x.want)
	}
	mustCost(t, api.Schema{Cards: []int{1}}, 5, []api.Edge{first(1), scan(0, 1)}, 1)
	mustCost(t, api.Schema{Cards: []int{1}}, 5, []api.Edge{first(1), sort(0, 1)}, 2)
	mustCost(t, api.Schema{Cards: []int{16}}, 300, []api.Edge{first(1), sort(0, 1)}, 96)
}

func TestCostByDiceP1002(t *testing.T) {
	die := rand.New(rand.NewSource(2))
	for range 2000 {
		s, rows := someSchema(die), die.Intn(301)
		plan := somePlan(die, len(s.Cards))
		mustCost(t, s, rows, plan, sumByHand(s, rows, plan))
	}
}

// What may not be asked for costs 0.
func TestCostRefusedP9(t *testing.T) {
	two := []api.Edge{first(3), scan(1, 3), sort(2, 3), scan(0, 2)}
	s := api.Schema{Cards: []int{4, 3}, Measures: 2}
	mustCost(t, s, 300, two, 12+60+3)
	for _, rows := range []int{-1, -300, 301, 1 << 40, math.MinInt, math.MaxInt} {
		mustCost(t, s, rows, two, 0)
	}
	for _, cards := range [][]int{nil, {4}, {4, 0}, {17, 3}, {4, 3, 2}, {4, 3, 2, 1}, make([]int, 70000)} {
		mustCost(t, api.Schema{Cards: cards}, 300, two, 0)
	}
	for _, measures := range []int{-1, 3, math.MinInt, math.MaxInt} {
		mustCost(t, api.Schema{Cards: []int{4, 3}, Measures: measures}, 300, two, 0)
	}
	mustCost(t, s, 300, nil, 0)
	mustCost(t, s, 300, two[:3], 0)
	mustCost(t, s, 300, []api.Edge{first(3), scan(1, 3), scan(2, 3), scan(0, 2)}, 0)
	mustCost(t, s, 300, []api.Edge{first(3), scan(1, 3), sort(2, 3), scan(0, 3)}, 0)
}

func TestPlanRefusedP9(t *testing.T) {
	for _, rows := range []int{-1, -300, 301, 302, 1 << 40, math.MinInt, math.MaxInt} {
		for _, cards := range [][]int{{4}, {4, 3}, {2, 2, 2}, {1, 16, 1, 16}} {
			mustPlan(t, api.Schema{Cards: cards}, rows)
		}
	}
	for _, s := range []api.Schema{
		{}, {Cards: []int{}}, {Cards: []int{0}}, {Cards: []int{17}}, {Cards: []int{-1}}, {Cards: []int{2, 0}}, {Cards: []int{3, 2, 17}},
		{Cards: []int{1, 1, 1, 1, 1}}, {Cards: []int{math.MaxInt, math.MaxInt}}, {Cards: []int{math.MinInt, 2}}, {Cards: make([]int, 70000)},
		{Cards: []int{2}, Measures: -1}, {Cards: []int{2}, Measures: 3}, {Cards: []int{2}, Measures: math.MinInt}, {Cards: []int{2}, Measures: math.MaxInt},
	} {
		for _, rows := range []int{0, 1, 300, -1, 301} {
			mustPlan(t, s, rows)
		}
	}
}

func TestRightP1002(t *testing.T) {
	for i, x := range []struct {
		plan []api.Edge
		want bool
	}{
		{[]api.Edge{first(3), scan(1, 3), sort(2, 3), scan(0, 1)}, true},
		{[]api.Edge{first(3), sort(1, 3), scan(2, 3), scan(0, 1)}, true},
		{[]api.Edge{first(3), sort(1, 3), sort(2, 3), sort(0, 1)}, true},
		{[]api.Edge{first(3), sort(1, 3), sort(2, 3), sort(0, 2)}, true},
		{[]api.Edge{first(3), scan(1, 3), scan(2, 3), scan(0, 1)}, false}, // scanned twice
		// The first one.
		{[]api.Edge{scan(3, -1), scan(1, 3), sort(2, 3), scan(0, 1)}, false},
		{[]api.Edge{sort(3, 0), scan(1, 3), sort(2, 3), scan(0, 1)}, false},
		{[]api.Edge{sort(3, 3), scan(1, 3), sort(2, 3), scan(0, 1)}, false},
		{[]api.Edge{sort(3, 7), scan(1, 3), sort(2, 3), scan(0, 1)}, false},
		{[]api.Edge{sort(3, -2), scan(1, 3), sort(2, 3), scan(0, 1)}, false},
		// Parents that are none: of the facts, the set itself, beside it, above its parent, below it, of no set.
		{[]api.Edge{first(3), first(1), sort(2, 3), scan(0, 1)}, false},
		{[]api.Edge{first(3), scan(1, 1), sort(2, 3), scan(0, 1)}, false},
		{[]api.Edge{first(3), sort(1, 2), sort(2, 3), scan(0, 1)}, false},
		{[]api.Edge{first(3), scan(1, 3), sort(2, 3), sort(0, 3)}, false},
		{[]api.Edge{first(3), scan(1, 3), sort(2, 0), scan(0, 1)}, false},
		{[]api.Edge{first(3), sort(1, 5), sort(2, 3), scan(0, 1)}, false},
		{[]api.Edge{first(3), sort(1, 3), sort(2, 3), first(0)}, false},
		{[]api.Edge{first(3), sort(1, 3), sort(2, 3), sort(0, 4)}, false},
		// Sets that are out of order, twice, missing, too many, none.
		{[]api.Edge{first(3), sort(2, 3), scan(1, 3), scan(0, 1)}, false},
		{[]api.Edge{first(3), scan(1, 3), sort(1, 3), scan(0, 1)}, false},
		{[]api.Edge{first(3), scan(1, 3), scan(0, 1), sort(2, 3)}, false},
		{[]api.Edge{first(3), scan(1, 3), sort(2, 3)}, false},
		{[]api.Edge{scan(1, 3), sort(2, 3), scan(0, 1)}, false},
		{[]api.Edge{first(3), scan(1, 3), sort(2, 3), scan(0, 1), scan(0, 2)}, false},
		{[]api.Edge{first(3), first(3), scan(1, 3), sort(2, 3), scan(0, 1)}, false},
		{[]api.Edge{first(3), sort(5, 7), sort(2, 3), scan(0, 1)}, false},
		{[]api.Edge{first(0), first(0), first(0), first(0)}, false},
		{make([]api.Edge, 4), false},
		{nil, false}, {[]api.Edge{}, false}, {make([]api.Edge, 1<<20), false},
	} {
		if got := sorts.Right(x.plan, 2); got != x.want {
			t.Errorf("P1002: %d: Right: %v", i, got)
		}
		for _, dims := range []int{1, 3, 4, 0, -1, 5} {
			if sorts.Right(x.plan, dims) {
				t.Errorf("P1002: %d: Right of %d dimensions", i, dims)
			}
		}
	}
	mustJudge(t, []api.Edge{first(1), scan(0, 1)}, 1, true)
	mustJudge(t, []api.Edge{first(1), sort(0, 1)}, 1, true)
	mustJudge(t, []api.Edge{first(1), sort(0, -1)}, 1, false)
	mustJudge(t, []api.Edge{first(1)}, 1, false)
}

func TestRightDimensionsP9(t *testing.T) {
	five := []api.Edge{first(31)}
	for set := range 31 {
		five = append(five, sort(set, set|set+1))
	}
	for _, dims := range []int{0, -1, -4, 5, 31, 62, 63, 64, 1 << 40, math.MinInt, math.MaxInt} {
		for _, plan := range [][]api.Edge{nil, {first(0)}, {first(1), scan(0, 1)}, five} {
			mustJudge(t, plan, dims, false)
			mustOrder(t, plan, dims)
		}
	}
}

// Each plan of one dimension and of two, right or not, from numbers about those that may be.
func TestAllPlansP1002(t *testing.T) {
	right := map[int]int{}
	for dims := 1; dims <= 2; dims++ {
		plan := make([]api.Edge, 1<<dims)
		for i := range plan {
			plan[i].Set = setsOf[dims][i]
		}
		var try func(i int)
		try = func(i int) {
			if i == len(plan) {
				want := rightByHand(plan, dims)
				mustJudge(t, plan, dims, want)
				if want {
					right[dims]++
				}
				return
			}
			for parent := -2; parent <= 1<<dims; parent++ {
				for _, is := range []bool{false, true} {
					plan[i].Parent, plan[i].Scan = parent, is
					try(i + 1)
				}
			}
		}
		try(0)
	}
	if right[1] != 2 || right[2] != 12 {
		t.Errorf("P1002: so many are right: %v", right)
	}
}

// One edge of a right plan is spoilt: its set, its parent, whether it scans.
func TestSpoiltPlansP1002(t *testing.T) {
	die := rand.New(rand.NewSource(3))
	numbers := []int{math.MinInt, -16, -2, -1, 16, 17, 31, 1 << 32, 1<<32 + 3, math.MaxInt}
	for set := range 16 {
		numbers = append(numbers, set)
	}
	seen := map[bool]int{}
	for range 60 {
		dims := 1 + die.Intn(4)
		plan := somePlan(die, dims)
		mustJudge(t, plan, dims, true)
		for i, was := range plan {
			for _, n := range numbers {
				for _, e := range []api.Edge{{Set: n, Parent: was.Parent, Scan: was.Scan}, {Set: was.Set, Parent: n}, {Set: was.Set, Parent: n, Scan: true}} {
					plan[i] = e
					want := rightByHand(plan, dims)
					mustJudge(t, plan, dims, want)
					seen[want]++
				}
			}
			plan[i] = was
		}
	}
	if seen[true] < 500 || seen[false] < 500 {
		t.Errorf("the die falls to one side: %v", seen)
	}
}

func TestOrdersP1002(t *testing.T) {
	mustOrder(t, []api.Edge{first(1), scan(0, 1)}, 1, []int{0}, nil)
	mustOrder(t, []api.Edge{first(1), sort(0, 1)}, 1, []int{0}, nil)
	mustOrder(t, []api.Edge{first(3), scan(1, 3), sort(2, 3), scan(0, 1)}, 2, []int{0, 1}, []int{0}, []int{1}, nil)
	mustOrder(t, []api.Edge{first(3), sort(1, 3), scan(2, 3), scan(0, 1)}, 2, []int{1, 0}, []int{0}, []int{1}, nil)
	// Made of it, but not by Scan.
	mustOrder(t, []api.Edge{first(3), sort(1, 3), sort(2, 3), sort(0, 2)}, 2, []int{0, 1}, []int{0}, []int{1}, nil)
	// 0 of 4, that of 6, that of 7: each has one more behind it.
	mustOrder(t, []api.Edge{first(7), sort(3, 7), sort(5, 7), scan(6, 7), sort(1, 3), scan(2, 3), scan(4, 6), scan(0, 4)}, 3,
		[]int{2, 1, 0}, []int{1, 0}, []int{0, 2}, []int{2, 1}, []int{0}, []int{1}, []int{2}, nil)
	// 5 is scanned, 7 only sorted.
	mustOrder(t, []api.Edge{first(7), sort(3, 7), sort(5, 7), sort(6, 7), sort(1, 3), sort(2, 3), scan(4, 5), sort(0, 1)}, 3,
		[]int{0, 1, 2}, []int{0, 1}, []int{2, 0}, []int{1, 2}, []int{0}, []int{1}, []int{2}, nil)
	mustOrder(t, []api.Edge{
		first(15),
		sort(7, 15), scan(11, 15), sort(13, 15), sort(14, 15),
		sort(3, 7), scan(5, 7), scan(6, 14), sort(9, 13), scan(10, 11), scan(12, 13),
		sort(1, 3), scan(2, 10), scan(4, 6), scan(8, 9),
		scan(0, 8),
	}, 4,
		[]int{1, 3, 0, 2},
		[]int{0, 2, 1}, []int{1, 3, 0}, []int{2, 3, 0}, []int{2, 1, 3},
		[]int{0, 1}, []int{0, 2}, []int{2, 1}, []int{3, 0}, []int{1, 3}, []int{2, 3},
		[]int{0}, []int{1}, []int{2}, []int{3},
		nil)
}

// orderByHand asks a set's scanner for its order, and that one its own.
func orderByHand(plan []api.Edge, set int) (order []int) {
	more := func(than int) (list []int) {
		for d := range 4 {
			if (set-than)>>d%2 == 1 {
				list = append(list, d)
			}
		}
		return list
	}
	for _, e := range plan {
		if e.Scan && e.Parent == set {
			return append(orderByHand(plan, e.Set), more(e.Set)...)
		}
	}
	return more(0)
}

func TestOrdersByDiceP1002(t *testing.T) {
	die := rand.New(rand.NewSource(4))
	for range 3000 {
		dims := 1 + die.Intn(4)
		plan := somePlan(die, dims)
		var want [][]int
		for _, e := range plan {
			want = append(want, orderByHand(plan, e.Set))
		}
		mustOrder(t, plan, dims, want...)
	}
}

// What is not right has no orders.
func TestOrdersRefusedP9(t *testing.T) {
	good := []api.Edge{first(3), scan(1, 3), sort(2, 3), scan(0, 1)}
	for _, dims := range []int{0, 1, 3, 4, 5, -1, math.MinInt, math.MaxInt} {
		mustOrder(t, good, dims)
	}
	mustOrder(t, nil, 2)
	mustOrder(t, good[:3], 2)
	mustOrder(t, []api.Edge{first(3), scan(1, 3), scan(2, 3), scan(0, 1)}, 2)
	mustOrder(t, []api.Edge{first(3), scan(1, -9), sort(2, 3), scan(0, 1)}, 2)
	mustOrder(t, []api.Edge{first(3), scan(1, 3), sort(2, 3), scan(0, 1<<40)}, 2)
}

// allRight tells each right plan of so many dimensions, in the same memory.
func allRight(dims int, yield func(plan []api.Edge)) {
	plan := []api.Edge{first(1<<dims - 1)}
	var try func()
	try = func() {
		if len(plan) == 1<<dims {
			yield(plan)
			return
		}
		set := setsOf[dims][len(plan)]
		for _, p := range parentsByHand(set, dims) {
			for _, e := range []api.Edge{scan(set, p), sort(set, p)} {
				if !e.Scan || !slices.ContainsFunc(plan, func(other api.Edge) bool { return other.Scan && other.Parent == p }) {
					plan = append(plan, e)
					try()
					plan = plan[:len(plan)-1]
				}
			}
		}
	}
	try()
}

// Each right plan of three dimensions at most costs no less.
func TestNoneCostsLessP1003(t *testing.T) {
	for _, s := range []api.Schema{
		{Cards: []int{1}}, {Cards: []int{16}},
		{Cards: []int{4, 3}}, {Cards: []int{1, 16}}, {Cards: []int{16, 16}},
		{Cards: []int{2, 3, 4}}, {Cards: []int{1, 3, 16}}, {Cards: []int{16, 3, 1}}, {Cards: []int{16, 16, 16}}, {Cards: []int{1, 1, 1}},
	} {
		dims := len(s.Cards)
		for _, rows := range []int{0, 1, 7, 20, 300} {
			plan := sorts.Plan(s, rows)
			mustJudge(t, plan, dims, true)
			cost := sorts.Cost(s, rows, plan)
			least := math.MaxInt
			allRight(dims, func(other []api.Edge) {
				if !sorts.Right(other, dims) {
					t.Fatalf("P1002: %v is right", other)
				}
				least = min(least, sorts.Cost(s, rows, other))
			})
			if cost != least {
				t.Errorf("P1003: Plan of %v, %d rows, costs %d; there is one of %d", s, rows, cost, least)
			}
		}
	}
}

// Right plans by dice, of four dimensions, too; so are plans next to the one that is answered, one edge or two away.
func TestNoneCostsLessByDiceP1003(t *testing.T) {
	die := rand.New(rand.NewSource(5))
	for range 300 {
		s, rows := someSchema(die), die.Intn(301)
		dims := len(s.Cards)
		plan := sorts.Plan(s, rows)
		mustJudge(t, plan, dims, true)
		cost := sorts.Cost(s, rows, plan)
		mustCost(t, s, rows, planByHand(s, rows), cost)
		for range 60 {
			other := somePlan(die, dims)
			if die.Intn(2) == 0 {
				other = slices.Clone(plan)
				for range 1 + die.Intn(2) {
					i := 1 + die.Intn(len(plan)-1)
					parents := parentsByHand(other[i].Set, dims)
					other[i].Parent, other[i].Scan = parents[die.Intn(len(parents))], die.Intn(2) == 0
				}
			}
			if sorts.Right(other, dims) && sorts.Cost(s, rows, other) < cost {
				t.Fatalf("P1003: Plan of %v, %d rows: %v costs less than %v", s, rows, other, plan)
			}
		}
	}
}
