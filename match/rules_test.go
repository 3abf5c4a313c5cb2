package match_test

import (
	"math"
	"math/rand"
	"slices"
	"sync"
	"testing"

	"hypercube/match"
)

// roomy answers a table with spare room that holds marks, in the rows and behind them.
func roomy() [][]int {
	cost := make([][]int, 3, 5)
	for i := range cost[:cap(cost)] {
		row := []int{i, 9 - i, 4, 5, 77, 78}
		cost[:cap(cost)][i] = row[:4]
	}
	return cost
}

func whole[E any](list []E) []E { return list[:cap(list)] }

func mustBeAsItWas(t *testing.T, cost, was [][]int) {
	t.Helper()
	for i, row := range whole(cost) {
		if !slices.Equal(whole(row), whole(whole(was)[i])) {
			t.Errorf("P2: row %d that was handed in is %v", i, whole(row))
		}
	}
}

func TestNothingHandedInChangesP2(t *testing.T) {
	for _, c := range []int{1, -1, 1_000_001} {
		cost, was := roomy(), roomy()
		cost[2][3], was[2][3] = c, c
		match.Assign(cost)
		mustBeAsItWas(t, cost, was)
	}
}

// One row, handed in three times, is no less three rows.
func TestSharedRowsP2(t *testing.T) {
	row := []int{8, 1, 2, 3}
	mustAssign(t, [][]int{row, row, row}, 6, 1, 2, 3)
	if !slices.Equal(row, []int{8, 1, 2, 3}) {
		t.Errorf("P2: the row is %v", row)
	}
}

// What is answered is filled, its spare room too; neither another answer nor what was handed in may tell.
func TestAnswersAreNewP2(t *testing.T) {
	cost := roomy()
	to, total, _ := match.Assign(cost)
	same := slices.Clone(to)
	other, _, _ := match.Assign(cost)
	for i := range whole(to) {
		whole(to)[i] = 99
	}
	if !slices.Equal(other, same) {
		t.Errorf("P2: two answers share memory: %v", other)
	}
	mustBeAsItWas(t, cost, roomy())
	mustAssign(t, cost, total, same...)
}

func TestNotKeptP2(t *testing.T) {
	cost := [][]int{{5, 1}, {1, 5}}
	to, _, _ := match.Assign(cost)
	cost[0][0], cost[0][1] = 0, 9
	if !slices.Equal(to, []int{1, 0}) {
		t.Errorf("P2: an answer hangs on what is changed later: %v", to)
	}
	mustAssign(t, cost, 5, 0, 1)
}

func TestSameAgainP3(t *testing.T) {
	cost := [][]int{{5, 1, 1}, {1, 5, 1}, {1, 1, 5}}
	for range 3 {
		mustAssign(t, cost, 3, 1, 2, 0)
		// What was refused says nothing of what comes after it.
		mustRefuse(t, [][]int{{1, 2}, {1, -1}})
		mustAssign(t, nil, 0)
	}
}

// Calls side by side keep nothing that they could touch.
func TestSideBySideP7(t *testing.T) {
	var all sync.WaitGroup
	for i := range 8 {
		all.Go(func() {
			for range 20 {
				cost := table(9, 12, 5)
				cost[8][i] = 0
				to := upTo(9)
				to[8] = i
				for row := i; row < 8; row++ {
					to[row]++
				}
				mustAssign(t, cost, 40, to...)
			}
		})
	}
	all.Wait()
}

func TestAnyPlainDataP1(t *testing.T) {
	die := rand.New(rand.NewSource(4))
	numbers := []int{math.MinInt, -1_000_000, -1, 0, 0, 1, 1, 2, 7, 999_999, 1_000_000, 1_000_001, math.MaxInt32, math.MaxInt}
	for range 5000 {
		cost := make([][]int, die.Intn(15))
		columns, wild := die.Intn(15), 1+die.Intn(len(numbers))
		for i := range cost {
			if die.Intn(9) > 0 {
				cost[i] = make([]int, max(0, columns+(die.Intn(9)+1)/9-(die.Intn(9)+1)/9))
			}
			for k := range cost[i] {
				cost[i][k] = numbers[(3+die.Intn(wild))%len(numbers)]
			}
		}
		to, total, is := match.Assign(cost)
		if !is && (len(to) > 0 || total != 0) || is && len(to) != len(cost) {
			t.Fatalf("P4: Assign of %v: %v, %d, %v", cost, to, total, is)
		}
	}
}

// The most that may be is not tried way by way: there are 12! of them, and so many tables that such a test would not end.
func TestEndsSoonP1(t *testing.T) {
	for c := range 1000 {
		mustAssign(t, table(12, 12, c), 12*c, upTo(12)...)
	}
}
