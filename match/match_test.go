package match_test

import (
	"math"
	"math/rand"
	"slices"
	"testing"

	"hypercube/match"
)

func mustAssign(t *testing.T, cost [][]int, total int, to ...int) {
	t.Helper()
	if got, sum, is := match.Assign(cost); !is || sum != total || !slices.Equal(got, to) {
		t.Errorf("P901: Assign of %v: %v, %d, %v, not %v, %d", cost, got, sum, is, to, total)
	}
}

// mustRefuse asks for zero values beside the false, too.
func mustRefuse(t *testing.T, cost [][]int) {
	t.Helper()
	if to, total, is := match.Assign(cost); is || total != 0 || len(to) != 0 {
		t.Errorf("P901, P4: Assign of %d rows: %v, %d, %v", len(cost), to, total, is)
	}
}

// table answers rows of one cost.
func table(rows, columns, c int) [][]int {
	cost := make([][]int, rows)
	for i := range cost {
		cost[i] = slices.Repeat([]int{c}, columns)
	}
	return cost
}

// upTo answers the numbers below n, rising.
func upTo(n int) []int {
	list := make([]int, n)
	for i := range list {
		list[i] = i
	}
	return list
}

func TestAssignP901(t *testing.T) {
	mustAssign(t, [][]int{{7}}, 7, 0)
	mustAssign(t, [][]int{{9, 3, 8}}, 3, 1)
	mustAssign(t, [][]int{{9, 8, 3}}, 3, 2)
	mustAssign(t, [][]int{{5, 1}, {1, 5}}, 2, 1, 0)
	// What is least for a row need not be so for all.
	mustAssign(t, [][]int{{1, 2}, {1, 9}}, 3, 1, 0)
	mustAssign(t, [][]int{{0, 1, 100}, {0, 100, 1}, {0, 50, 60}}, 2, 1, 2, 0)
	mustAssign(t, [][]int{{1, 2, 3}, {2, 4, 6}, {3, 6, 9}}, 10, 2, 1, 0)
	mustAssign(t, [][]int{{10, 19, 8, 15}, {10, 18, 7, 17}, {13, 16, 9, 14}, {12, 19, 8, 18}}, 49, 3, 0, 1, 2)
	// More columns than rows: some are nobody's.
	mustAssign(t, [][]int{{4, 1, 9}, {9, 0, 9}}, 4, 0, 1)
	mustAssign(t, [][]int{{9, 9, 9, 1}, {9, 9, 9, 2}}, 10, 3, 0)
	mustAssign(t, [][]int{{1_000_000, 1_000_000, 5}, {1_000_000, 1_000_000, 6}}, 1_000_005, 2, 0)
}

// Of several the first one, by the first row's column, then the second one's.
func TestFirstOfSeveralP901(t *testing.T) {
	mustAssign(t, [][]int{{0, 0, 0}}, 0, 0)
	mustAssign(t, [][]int{{3, 2, 2}}, 2, 1)
	mustAssign(t, [][]int{{1, 2}, {2, 3}}, 4, 0, 1)
	mustAssign(t, [][]int{{1, 1}, {9, 1}}, 2, 0, 1)
	mustAssign(t, [][]int{{1, 1, 2, 2}, {1, 1, 2, 2}, {2, 2, 1, 1}, {2, 2, 1, 1}}, 4, 0, 1, 2, 3)
	mustAssign(t, [][]int{{1, 0, 0, 0}, {0, 1, 0, 0}, {0, 0, 1, 0}, {0, 0, 0, 1}}, 0, 1, 0, 3, 2)
	mustAssign(t, [][]int{{5, 0, 0}, {0, 5, 5}, {5, 0, 0}}, 0, 1, 0, 2)
	mustAssign(t, [][]int{{3, 3, 1}, {3, 1, 3}, {1, 1, 1}}, 3, 2, 1, 0)
	for columns := 1; columns <= 12; columns++ {
		for rows := 1; rows <= columns; rows++ {
			mustAssign(t, table(rows, columns, 4), 4*rows, upTo(rows)...)
		}
	}
}

// No rows: there is one way, of nothing.
func TestNoRowsP901(t *testing.T) {
	mustAssign(t, nil, 0)
	mustAssign(t, [][]int{}, 0)
	mustAssign(t, make([][]int, 0, 20), 0)
}

func TestTooManyP901(t *testing.T) {
	mustAssign(t, table(12, 12, 1), 12, upTo(12)...)
	mustAssign(t, table(1, 12, 1), 1, 0)
	for _, x := range [][2]int{
		{1, 13}, {12, 13}, {13, 13}, {13, 14}, {2, 16}, {1, 64}, {3, 1000}, {1, 1 << 20}, // columns
		{13, 12}, {13, 1}, {13, 0}, {100, 100}, {1 << 20, 0}, {1 << 20, 12}, // rows
		{1, 0}, {2, 1}, {3, 2}, {12, 11}, {12, 0}, // rows, for so few columns
	} {
		mustRefuse(t, table(x[0], x[1], 1))
	}
}

// Rows that are longer or shorter than the others, wherever they stand.
func TestRowsOfOneLengthP901(t *testing.T) {
	for _, length := range []int{0, 1, 3, 5, 12, 13} {
		for at := range 4 {
			cost := table(4, 4, 1)
			cost[at] = make([]int, length)
			mustRefuse(t, cost)
		}
	}
	mustRefuse(t, [][]int{{1, 2}, {1}})
	mustRefuse(t, [][]int{{1}, {1, 2}})
	mustRefuse(t, [][]int{nil, {1, 2}})
	mustRefuse(t, [][]int{{1, 2, 3}, nil})
}

func TestCostsP901(t *testing.T) {
	mustAssign(t, [][]int{{0}}, 0, 0)
	mustAssign(t, [][]int{{1_000_000}}, 1_000_000, 0)
	mustAssign(t, table(12, 12, 1_000_000), 12_000_000, upTo(12)...)
	mustAssign(t, [][]int{{1_000_000, 0}, {0, 1_000_000}}, 0, 1, 0)
	for _, c := range []int{-1, -1_000_000, math.MinInt, math.MinInt32, 1_000_001, 1 << 31, 1 << 32, math.MaxInt} {
		for _, size := range [][2]int{{1, 1}, {1, 2}, {3, 3}, {3, 5}, {12, 12}} {
			for row := range size[0] {
				for column := range size[1] {
					cost := table(size[0], size[1], 1)
					cost[row][column] = c // nobody would take it, or all would
					mustRefuse(t, cost)
				}
			}
		}
	}
}

// tried answers the first of the least ways, by trying all of them in their order.
func tried(cost [][]int) (to []int, total int) {
	var now []int
	total = math.MaxInt
	var try func(sum int)
	try = func(sum int) {
		if len(now) == len(cost) {
			if sum < total {
				to, total = slices.Clone(now), sum
			}
			return
		}
		for k, c := range cost[len(now)] {
			if !slices.Contains(now, k) {
				now = append(now, k)
				try(sum + c)
				now = now[:len(now)-1]
			}
		}
	}
	try(0)
	return to, total
}

// thrown answers costs below so many.
func thrown(die *rand.Rand, rows, columns, below int) [][]int {
	cost := table(rows, columns, 0)
	for _, row := range cost {
		for k := range row {
			row[k] = die.Intn(below)
		}
	}
	return cost
}

func TestAssignByDiceP901(t *testing.T) {
	die := rand.New(rand.NewSource(1))
	for range 3000 {
		columns := 1 + die.Intn(6)
		below := []int{2, 3, 5, 50, 1_000_001}[die.Intn(5)]
		cost := thrown(die, 1+die.Intn(columns), columns, below)
		to, total := tried(cost)
		mustAssign(t, cost, total, to...)
		if t.Failed() {
			return
		}
	}
}

// Few rows of many columns can still be tried.
func TestFewRowsByDiceP901(t *testing.T) {
	die := rand.New(rand.NewSource(2))
	for range 200 {
		cost := thrown(die, 1+die.Intn(3), 7+die.Intn(6), []int{2, 4, 1_000_001}[die.Intn(3)])
		to, total := tried(cost)
		mustAssign(t, cost, total, to...)
	}
}

// leastTotal is found another way: row by row, by the shortest ways on which those before it give way (Kuhn, Munkres).
func leastTotal(cost [][]int) int {
	if len(cost) == 0 {
		return 0
	}
	rows, columns := len(cost), len(cost[0])
	ofRow, ofColumn := make([]int, rows+1), make([]int, columns+1)
	who, from := make([]int, columns+1), make([]int, columns+1)
	for i := 1; i <= rows; i++ {
		who[0] = i
		column, gap, done := 0, slices.Repeat([]int{math.MaxInt}, columns+1), make([]bool, columns+1)
		for who[column] != 0 {
			done[column] = true
			row, low, next := who[column], math.MaxInt, 0
			for k := 1; k <= columns; k++ {
				if done[k] {
					continue
				}
				if c := cost[row-1][k-1] - ofRow[row] - ofColumn[k]; c < gap[k] {
					gap[k], from[k] = c, column
				}
				if gap[k] < low {
					low, next = gap[k], k
				}
			}
			for k := range gap {
				if done[k] {
					ofRow[who[k]] += low
					ofColumn[k] -= low
				} else {
					gap[k] -= low
				}
			}
			column = next
		}
		for column != 0 {
			who[column], column = who[from[column]], from[column]
		}
	}
	return -ofColumn[0]
}

// behind answers the rows behind the first one, without a column.
func behind(cost [][]int, column int) [][]int {
	var rest [][]int
	for _, row := range cost[1:] {
		rest = append(rest, slices.Delete(slices.Clone(row), column, column+1))
	}
	return rest
}

// stepped answers the first of the least ways: each row in turn has the first column with which the others' least total still makes the least.
func stepped(cost [][]int) (to []int, total int) {
	total = leastTotal(cost)
	free := upTo(len(cost[0]))
	for left := total; len(cost) > 0; {
		k := 0
		for cost[0][k]+leastTotal(behind(cost, k)) != left {
			k++
		}
		to = append(to, free[k])
		left -= cost[0][k]
		free = slices.Delete(free, k, k+1)
		cost = behind(cost, k)
	}
	return to, total
}

func TestGreatByDiceP901(t *testing.T) {
	die := rand.New(rand.NewSource(3))
	for range 150 {
		columns := 8 + die.Intn(5)
		cost := thrown(die, columns-die.Intn(4), columns, []int{2, 3, 9, 300, 1_000_001}[die.Intn(5)])
		to, total := stepped(cost)
		mustAssign(t, cost, total, to...)
		if t.Failed() {
			return
		}
	}
}

// Costs of a row and a column, added: all ways are alike.
func TestAllWaysAlikeP901(t *testing.T) {
	cost, total := table(12, 12, 0), 0
	for i, row := range cost {
		for k := range row {
			row[k] = 1000*i + 37*k
		}
		total += row[i]
	}
	mustAssign(t, cost, total, upTo(12)...)
}

// As plans have it: most ways are barred by a great cost, each row has one column that is its own.
func TestBarredP901(t *testing.T) {
	const bar = 1_000_000
	mustAssign(t, [][]int{
		{10, bar, bar, 50, bar, bar},
		{10, bar, bar, bar, 50, bar},
		{10, 12, bar, bar, bar, 90},
	}, 10+50+12, 0, 4, 1)
	cost := table(6, 12, bar)
	for i := range cost {
		cost[i][11-i] = i
	}
	mustAssign(t, cost, 15, 11, 10, 9, 8, 7, 6)
}
