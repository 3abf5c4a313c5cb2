package ledger_test

import (
	"slices"
	"testing"

	"hypercube/api"
	"hypercube/ledger"
)

func TestNothingHandedInChangesP2(t *testing.T) {
	room := []int{3, 16, 2, 99, 99}
	s := api.Schema{Cards: room[:3], Measures: 2}
	ledger.Width(s)
	if !slices.Equal(room, []int{3, 16, 2, 99, 99}) {
		t.Errorf("P2: a schema that was handed in is changed: %v", room)
	}
}

func TestSameAgainP3(t *testing.T) {
	answers := func() []any {
		l := ledger.New(9)
		return []any{l.Take(4), l.Take(6), l.Give(5), l.Give(3), l.Take(8), l.Used(), l.High(), ledger.Width(api.Schema{Cards: []int{2}})}
	}
	if a, b := answers(), answers(); !slices.Equal(a, b) {
		t.Errorf("P3: %v, then %v", a, b)
	}
}

// To ask changes nothing.
func TestAskedTwiceP3(t *testing.T) {
	l := ledger.New(9)
	l.Take(6)
	l.Give(4)
	for range 3 {
		mustHave(t, l, 2, 6)
	}
}

func TestLedgersAreApartP7(t *testing.T) {
	a, b, c := ledger.New(5), ledger.New(5), ledger.New(8)
	if a == b {
		t.Fatal("P7: New answers one that somebody has")
	}
	a.Take(5)
	mustHave(t, b, 0, 0)
	b.Take(2)
	c.Take(7)
	a.Give(1)
	mustHave(t, a, 4, 5)
	mustHave(t, b, 2, 2)
	mustHave(t, c, 7, 7)
	if !b.Take(3) || c.Take(2) {
		t.Error("P7: the budget of one is that of another")
	}
}

// What may not be handed in: the calls end, and do not panic; nothing of such a budget is ever used.
func TestBudgetsBelowNothingP8(t *testing.T) {
	for _, budget := range []int{-1, -300, least + 1, least} {
		l := ledger.New(budget)
		for _, n := range []int{0, 1, -1, budget, -budget, least, most} {
			if l.Take(n) {
				t.Errorf("P9: Take %d of %d", n, budget)
			}
			l.Give(n)
			mustHave(t, l, 0, 0)
		}
	}
}

func TestWidthOfAnySchemaP8(t *testing.T) {
	for _, s := range []api.Schema{
		{}, {Measures: 2}, {Cards: []int{0}}, {Cards: []int{17}}, {Cards: []int{3, -1}, Measures: 1}, {Cards: []int{1, 1, 1, 1, 1}},
		{Cards: []int{2}, Measures: -1}, {Cards: []int{2}, Measures: 3}, {Cards: []int{2}, Measures: most}, {Cards: []int{2}, Measures: least},
		{Cards: make([]int, 70000)},
	} {
		if got := ledger.Width(s); got != 0 {
			t.Errorf("P9: Width of %d cards, Measures %d: %d", len(s.Cards), s.Measures, got)
		}
	}
}
