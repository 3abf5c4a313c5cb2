package lattice_test

import (
	"math"
	"slices"
	"sync"
	"testing"

	"hypercube/api"
	"hypercube/lattice"
)

// whole answers a list with its spare room.
func whole(list []int) []int { return list[:cap(list)] }

func TestNothingHandedInChangesP2(t *testing.T) {
	cards := []int{3, 16, 5, 77, 78}
	s := api.Schema{Cards: cards[:3], Measures: 1}
	for set := -1; set <= 16; set++ {
		lattice.Size(s, 300, set)
		lattice.Scan(s, 300, set)
		lattice.Sort(s, 300, set)
	}
	if !slices.Equal(cards, []int{3, 16, 5, 77, 78}) {
		t.Errorf("P2: a schema that was handed in is changed: %v", cards)
	}
}

// What is answered is filled, its spare room too; another answer is to be what it would have been.
func TestAnswersAreNewP2(t *testing.T) {
	for dims := 1; dims <= 4; dims++ {
		sets := slices.Clone(lattice.Sets(dims))
		first := lattice.Sets(dims)
		for i := range whole(first) {
			whole(first)[i] = 99
		}
		mustBeSets(t, dims, sets...)
		for _, set := range sets {
			parents := slices.Clone(lattice.Parents(set, dims))
			one, other := lattice.Parents(set, dims), lattice.Parents(set, dims)
			for i := range whole(one) {
				whole(one)[i] = 99
			}
			if !slices.Equal(other, parents) {
				t.Errorf("P2: two lists of parents of %d share memory", set)
			}
			mustHaveParents(t, set, dims, parents...)
		}
	}
}

func TestSameAgainP3(t *testing.T) {
	s := api.Schema{Cards: []int{3, 16, 1, 5}, Measures: 2}
	for range 3 {
		mustBeSets(t, 2, 3, 1, 2, 0)
		mustHaveParents(t, 2, 3, 3, 6)
		mustLevel(t, 13, 3)
		mustCost(t, s, 40, 3, 40, 280)
		// What was refused says nothing of what comes after it.
		mustBeSets(t, 5)
		mustHaveParents(t, 8, 3)
		mustCost(t, s, 301, 3, 0, 0)
	}
}

// Calls side by side keep nothing that they could touch.
func TestSideBySideP7(t *testing.T) {
	var all sync.WaitGroup
	for range 8 {
		all.Go(func() {
			for range 100 {
				mustBeSets(t, 3, 7, 3, 5, 6, 1, 2, 4, 0)
				mustHaveParents(t, 0, 4, 1, 2, 4, 8)
				mustCost(t, api.Schema{Cards: []int{3, 16}}, 300, 3, 48, 336)
			}
		})
	}
	all.Wait()
}

func TestAnyPlainDataP1(t *testing.T) {
	numbers := []int{math.MinInt, math.MinInt + 1, -17, -1, 0, 1, 2, 4, 5, 15, 16, 17, 63, 64, 65, 300, 301, 1 << 31, 1 << 62, math.MaxInt - 1, math.MaxInt}
	for _, a := range numbers {
		lattice.Sets(a)
		lattice.Level(a)
		for _, b := range numbers {
			lattice.Parents(a, b)
			for _, card := range numbers {
				for dims := range 6 {
					s := api.Schema{Cards: slices.Repeat([]int{card}, dims), Measures: card}
					lattice.Size(s, a, b)
					lattice.Scan(s, a, b)
					lattice.Sort(s, a, b)
				}
			}
		}
	}
}
