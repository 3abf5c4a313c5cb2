package ledger

import (
	"math"
	"testing"
)

// A narrow number has few states: each budget, use and n of it is tried, and held against sums that can't go round.
func TestNoSumGoesRoundP301(t *testing.T) {
	for budget := range math.MaxInt8 + 1 {
		for used := range budget + 1 {
			for n := math.MinInt8; n <= math.MaxInt8; n++ {
				before := account[int8]{mark[int8]{now: int8(used), most: int8(used)}, int8(budget)}
				mustMove(t, before, n, true)
				mustMove(t, before, n, false)
			}
		}
	}
}

// mustMove takes or gives n, and holds what comes of it against P301.
func mustMove(t *testing.T, before account[int8], n int, taking bool) {
	t.Helper()
	a, used := before, int(before.now)
	is, want := a.give(int8(n)), 0 <= n && n <= used
	to := used - n
	if taking {
		a = before
		is, want = a.take(int8(n)), 0 <= n && used+n <= int(before.budget)
		to = used + n
	}
	after := before
	if want {
		after.now, after.most = int8(to), int8(max(used, to))
	}
	if is != want || a != after {
		t.Fatalf("P301: %+v, taking %v, %d: %v, %+v", before, taking, n, is, a)
	}
}
