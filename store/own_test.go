package store

import (
	"slices"
	"testing"
)

func mustBeApart[E comparable](t *testing.T, list own[E], other E) {
	t.Helper()
	had := slices.Clone(list)
	for n := range len(list) + 1 {
		got := list.first(n)
		if !slices.Equal(got, had[:n]) {
			t.Errorf("P402: the first %d: %v", n, got)
		}
		if n == 0 && got != nil {
			t.Error("P2: a piece of no length has the memory of the whole")
		}
		for i := range got[:cap(got)] {
			got[:cap(got)][i] = other
		}
		if !slices.Equal(list, had) {
			t.Fatalf("P2: the first %d are memory of the whole", n)
		}
	}
	if !slices.Equal(list.all(), had) {
		t.Errorf("P401: all: %v", list.all())
	}
}

func TestListsAreApartP2(t *testing.T) {
	mustBeApart(t, own[byte](nil), 9)
	mustBeApart(t, own[byte]{1, 2, 3, 4, 5}, 9)
	mustBeApart(t, own[byte]{1, 2, 3, 4, 5}[:2], 9)
	mustBeApart(t, own[Op]{{Wrote, "a"}, {Synced, "a"}, {Removed, "b"}}, Op{9, "!"})
}
