package tree_test

import (
	"math"
	"math/rand"
	"slices"
	"sync"
	"testing"

	"hypercube/api"
	"hypercube/rec"
	"hypercube/tree"
)

// whole answers a list with its spare room.
func whole[E any](list []E) []E { return list[:cap(list)] }

func TestNothingHandedInChangesP2(t *testing.T) {
	cards := []int{3, 16, 5, 77, 78}
	for dims := range 6 {
		for _, rows := range []int{-1, 0, 40, 300, 301} {
			tree.Plan(api.Schema{Cards: cards[:dims], Measures: 1}, rows)
		}
	}
	if !slices.Equal(cards, []int{3, 16, 5, 77, 78}) {
		t.Errorf("P2: a schema that was handed in is changed: %v", cards)
	}
}

// What is answered is filled, its spare room too; another answer is to be what it would have been.
func TestPlansAreNewP2(t *testing.T) {
	for dims := 1; dims <= 4; dims++ {
		s := api.Schema{Cards: []int{3, 16, 5, 2}[:dims]}
		want := planByHand(s, 300)
		one, other := tree.Plan(s, 300), tree.Plan(s, 300)
		for i := range whole(one) {
			whole(one)[i] = api.Edge{Set: 99, Parent: 98, Scan: true}
		}
		if !slices.Equal(other, want) {
			t.Errorf("P2: two plans share memory: %v", other)
		}
		mustPlan(t, s, 300, want...)
	}
}

func TestSchemaIsNotKeptP2(t *testing.T) {
	s := api.Schema{Cards: []int{3, 16, 5}, Measures: 2}
	made := tree.Plan(s, 300)
	was := slices.Clone(made)
	s.Cards[0], s.Cards[2] = 16, 1
	if !slices.Equal(made, was) {
		t.Errorf("P2: a plan hangs on what is changed later: %v", made)
	}
	mustPlan(t, s, 300, planByHand(s, 300)...)
	s.Cards[0], s.Cards[2] = 3, 5
	mustPlan(t, s, 300, was...)
}

func TestSameAgainP3(t *testing.T) {
	s := api.Schema{Cards: []int{4, 3}, Measures: 1}
	for range 3 {
		mustPlan(t, s, 100, of(2, -1, 3, 3, 2)...)
		mustPlan(t, s, 2, of(2, -1, 3, 3, 1)...)
		// What was refused says nothing of what comes after it.
		mustPlan(t, s, 301)
		mustPlan(t, api.Schema{Cards: []int{4, 0}}, 100)
	}
}

// Calls side by side keep nothing that they could touch.
func TestSideBySideP7(t *testing.T) {
	var all sync.WaitGroup
	for i := range 8 {
		all.Go(func() {
			for range 50 {
				mustPlan(t, api.Schema{Cards: []int{4, 3 + i%2*2}}, 300, of(2, -1, 3, 3, 2-i%2)...)
			}
		})
	}
	all.Wait()
}

// Whatever is handed in, what may be has its plan, what may not be has none.
func TestAnyPlainDataP1(t *testing.T) {
	die := rand.New(rand.NewSource(12))
	numbers := []int{1, 2, 0, 3, 4, 16, -1, 15, 17, 300, 301, 1 << 32, 1 << 62, math.MaxInt, math.MinInt}
	number := func() int { return numbers[die.Intn(1+die.Intn(len(numbers)))] }
	planned, refused := 0, 0
	for range 20000 {
		s := api.Schema{Cards: make([]int, die.Intn(7)), Measures: number()}
		for i := range s.Cards {
			s.Cards[i] = number()
		}
		rows := number()
		if !rec.Check(s) || rows < 0 || rows > 300 {
			refused++
			mustPlan(t, s, rows)
			continue
		}
		planned++
		mustPlan(t, s, rows, planByHand(s, rows)...)
	}
	if planned < 500 || refused < 5000 {
		t.Errorf("the die falls to one side: %d, %d", planned, refused)
	}
}
