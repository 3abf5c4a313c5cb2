package sorts_test

import (
	"math"
	"math/rand"
	"slices"
	"sync"
	"testing"

	"hypercube/api"
	"hypercube/sorts"
)

// whole answers a list with its spare room.
func whole[E any](list []E) []E { return list[:cap(list)] }

// roomy answers a schema and one of its right plans, with spare room that holds marks.
func roomy() (api.Schema, []api.Edge) {
	cards := []int{3, 16, 5, 77, 78}
	plan := []api.Edge{first(7), sort(3, 7), sort(5, 7), scan(6, 7), sort(1, 3), scan(2, 3), scan(4, 6), scan(0, 4), scan(77, 78), sort(79, 80)}
	return api.Schema{Cards: cards[:3], Measures: 1}, plan[:8]
}

func TestNothingHandedInChangesP2(t *testing.T) {
	for _, spoilt := range []bool{false, true} {
		s, plan := roomy()
		same, was := roomy()
		if spoilt {
			plan[1], was[1] = scan(3, 7), scan(3, 7)
		}
		sorts.Plan(s, 300)
		sorts.Cost(s, 300, plan)
		sorts.Right(plan, 3)
		sorts.Orders(plan, 3)
		if !slices.Equal(whole(s.Cards), whole(same.Cards)) || !slices.Equal(whole(plan), whole(was)) {
			t.Errorf("P2: what was handed in is %v, %v", whole(s.Cards), whole(plan))
		}
	}
}

// What is answered is filled, its spare room too; another answer is to be what it would have been.
func TestPlansAreNewP2(t *testing.T) {
	s, _ := roomy()
	want := slices.Clone(sorts.Plan(s, 300))
	one, other := sorts.Plan(s, 300), sorts.Plan(s, 300)
	for i := range whole(one) {
		whole(one)[i] = scan(99, 98)
	}
	if !slices.Equal(other, want) {
		t.Errorf("P2: two plans share memory: %v", other)
	}
	mustPlan(t, s, 300, want...)
}

// Each order is filled, its spare room too, with a number of its own: none of them may lose it to another.
func TestOrdersAreApartP2(t *testing.T) {
	die := rand.New(rand.NewSource(6))
	for range 300 {
		dims := 1 + die.Intn(4)
		plan := somePlan(die, dims)
		was := slices.Clone(plan)
		orders, others := sorts.Orders(plan, dims), sorts.Orders(plan, dims)
		for i, order := range orders {
			for k := range whole(order) {
				whole(order)[k] = 100 + i
			}
		}
		for i, order := range orders {
			for _, v := range whole(order) {
				if v != 100+i {
					t.Fatalf("P2: orders %d and %d of %v share memory", i, v-100, plan)
				}
			}
		}
		mustOrder(t, plan, dims, others...)
		if !slices.Equal(plan, was) {
			t.Fatalf("P2: orders share memory with a plan: %v, not %v", plan, was)
		}
		for i := range plan {
			plan[i] = scan(99, 98)
		}
		mustOrder(t, was, dims, others...)
	}
}

func TestPlansAreNotKeptP2(t *testing.T) {
	s, plan := roomy()
	made := sorts.Plan(s, 300)
	was := slices.Clone(made)
	s.Cards[0], s.Cards[2] = 16, 1
	if !slices.Equal(made, was) {
		t.Errorf("P2: a plan hangs on what is changed later: %v", made)
	}
	s.Cards[0], s.Cards[2] = 3, 5
	mustPlan(t, s, 300, was...)
	mustCost(t, s, 300, plan, sumByHand(s, 300, plan))
}

func TestSameAgainP3(t *testing.T) {
	s := api.Schema{Cards: []int{4, 3}, Measures: 1}
	good := []api.Edge{first(3), scan(1, 3), sort(2, 3), scan(0, 2)}
	for range 3 {
		mustPlan(t, s, 100, good...)
		mustCost(t, s, 100, good, 75)
		mustJudge(t, good, 2, true)
		mustOrder(t, good, 2, []int{0, 1}, []int{0}, []int{1}, nil)
		// What was refused says nothing of what comes after it.
		mustPlan(t, s, 301)
		mustCost(t, s, 100, good[:3], 0)
		mustJudge(t, good, 3, false)
		mustOrder(t, good, 3)
	}
}

// Calls side by side keep nothing that they could touch.
func TestSideBySideP7(t *testing.T) {
	var all sync.WaitGroup
	for i := range 8 {
		all.Go(func() {
			for range 20 {
				s := api.Schema{Cards: []int{4, 3 + i%2*2}}
				want := []api.Edge{first(3), scan(1, 3), sort(2, 3), scan(0, 2-i%2)}
				mustPlan(t, s, 300, want...)
				mustCost(t, s, 300, want, sumByHand(s, 300, want))
				mustJudge(t, want, 2, true)
				mustOrder(t, want, 2, []int{0, 1}, []int{0}, []int{1}, nil)
			}
		})
	}
	all.Wait()
}

func TestAnyPlainDataP1(t *testing.T) {
	die := rand.New(rand.NewSource(7))
	numbers := []int{0, 1, 2, 3, 4, 5, 7, 8, 15, -1, 16, 17, 31, 300, 301, 1 << 32, 1 << 62, math.MaxInt, math.MinInt, -2}
	number := func() int { return numbers[die.Intn(1+die.Intn(len(numbers)))] }
	for range 20000 {
		s := api.Schema{Cards: make([]int, die.Intn(7)), Measures: number()}
		for i := range s.Cards {
			s.Cards[i] = number()
		}
		rows, dims := number(), number()
		plan := make([]api.Edge, die.Intn(40))
		if d := die.Intn(5); d > 0 {
			plan, dims = somePlan(die, d), d
			s.Cards = append(s.Cards, 1, 2, 3, 4)[:d]
		}
		for range die.Intn(4) {
			if len(plan) > 0 {
				plan[die.Intn(len(plan))] = api.Edge{Set: number(), Parent: number(), Scan: die.Intn(2) == 0}
			}
		}
		made := sorts.Plan(s, rows)
		if len(made) > 0 && !rightByHand(made, len(s.Cards)) {
			t.Fatalf("P1001: Plan of %v, %d rows: %v", s, rows, made)
		}
		mustJudge(t, plan, dims, rightByHand(plan, dims))
		right := rightByHand(plan, dims)
		if orders := sorts.Orders(plan, dims); right != (len(orders) > 0) {
			t.Fatalf("P1002: Orders of %v, %d: %v", plan, dims, orders)
		}
		if cost := sorts.Cost(s, rows, plan); cost < 0 || cost > 0 && !rightByHand(plan, len(s.Cards)) {
			t.Fatalf("P1002: Cost of %v, %d rows, %v: %d", s, rows, plan, cost)
		}
	}
}
