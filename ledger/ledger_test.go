package ledger_test

import (
	"math"
	"math/rand"
	"testing"

	"hypercube/api"
	"hypercube/ledger"
)

const most, least = math.MaxInt, math.MinInt

func mustHave(t *testing.T, l *ledger.Ledger, used, high int) {
	t.Helper()
	if l.Used() != used || l.High() != high {
		t.Errorf("P301: Used %d, High %d, not %d, %d", l.Used(), l.High(), used, high)
	}
}

// deed is a call of Take, or of Give, and what is to come of it.
type deed struct {
	give       bool
	n          int
	is         bool
	used, high int
}

func mustDo(t *testing.T, l *ledger.Ledger, d deed) {
	t.Helper()
	call := l.Take
	if d.give {
		call = l.Give
	}
	if got := call(d.n); got != d.is {
		t.Errorf("P301: of %+v: %v", d, got)
	}
	mustHave(t, l, d.used, d.high)
}

func TestNewP301(t *testing.T) {
	for _, budget := range []int{0, 1, 3, 300, most} {
		mustHave(t, ledger.New(budget), 0, 0)
	}
}

func TestTakeAndGiveP301(t *testing.T) {
	for budget, deeds := range map[int][]deed{
		0: {
			{false, 0, true, 0, 0}, {true, 0, true, 0, 0}, {false, 1, false, 0, 0}, {true, 1, false, 0, 0},
			{false, -1, false, 0, 0}, {true, -1, false, 0, 0},
		},
		5: {
			{false, 6, false, 0, 0}, {false, 5, true, 5, 5}, {false, 0, true, 5, 5}, {false, 1, false, 5, 5}, {true, 6, false, 5, 5},
			{true, 5, true, 0, 5}, {true, 1, false, 0, 5},
		},
		7: {
			{false, 3, true, 3, 3}, {false, 2, true, 5, 5}, {false, 3, false, 5, 5}, {true, 4, true, 1, 5}, {false, 3, true, 4, 5},
			{false, 2, true, 6, 6}, {true, 0, true, 6, 6}, {true, 6, true, 0, 6}, {false, 6, true, 6, 6}, {false, 1, true, 7, 7},
		},
		9: {
			{false, 4, true, 4, 4}, {false, -1, false, 4, 4}, {true, -1, false, 4, 4}, {false, -4, false, 4, 4}, {true, -5, false, 4, 4},
			{false, least, false, 4, 4}, {true, least, false, 4, 4}, {false, most, false, 4, 4}, {true, most, false, 4, 4},
			{false, most - 3, false, 4, 4}, {false, 5, true, 9, 9},
		},
		most: {
			{true, most, false, 0, 0}, {false, most, true, most, most}, {false, 0, true, most, most}, {false, 1, false, most, most},
			{false, most, false, most, most}, {false, least, false, most, most}, {true, least, false, most, most},
			{true, most - 1, true, 1, most}, {false, most, false, 1, most}, {false, most - 1, true, most, most}, {true, most, true, 0, most},
		},
	} {
		l := ledger.New(budget)
		for _, d := range deeds {
			mustDo(t, l, d)
		}
	}
}

// The parts that were taken are kept one by one, and counted anew.
func TestManyDeedsP301(t *testing.T) {
	die := rand.New(rand.NewSource(1))
	seen := map[bool]int{}
	for range 500 {
		budget := die.Intn(30)
		l := ledger.New(budget)
		var taken []bool
		high := 0
		for range 100 {
			d := deed{give: die.Intn(2) == 0, n: die.Intn(16) - 3}
			if d.give && d.n >= 0 && d.n <= len(taken) {
				taken, d.is = taken[d.n:], true
			} else if !d.give && d.n >= 0 && len(taken)+d.n <= budget {
				taken, d.is = append(taken, make([]bool, d.n)...), true
			}
			high = max(high, len(taken))
			d.used, d.high = len(taken), high
			seen[d.is]++
			mustDo(t, l, d)
		}
		if l.High() > budget {
			t.Errorf("T4: %d of %d at once", l.High(), budget)
		}
	}
	if seen[true] < 5000 || seen[false] < 5000 {
		t.Errorf("the die falls to one side: %v", seen)
	}
}

func TestWidthP301(t *testing.T) {
	for _, x := range []struct {
		cards          []int
		measures, want int
	}{
		{[]int{1}, 0, 2}, {[]int{16}, 0, 2}, {[]int{1}, 1, 5}, {[]int{1}, 2, 8},
		{[]int{3, 16}, 0, 3}, {[]int{3, 16}, 1, 6}, {[]int{3, 16}, 2, 9},
		{[]int{2, 1, 2}, 0, 4}, {[]int{2, 1, 2}, 1, 7}, {[]int{2, 1, 2}, 2, 10},
		{[]int{16, 16, 16, 16}, 0, 5}, {[]int{16, 1, 16, 1}, 1, 8}, {[]int{16, 16, 16, 16}, 2, 11},
	} {
		if got := ledger.Width(api.Schema{Cards: x.cards, Measures: x.measures}); got != x.want {
			t.Errorf("P301: Width of %v, %d: %d", x.cards, x.measures, got)
		}
	}
}
