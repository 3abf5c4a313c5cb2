package query

import (
	"slices"
	"strings"
	"testing"

	"hypercube/api"
	"hypercube/build"
	"hypercube/rec"
	"hypercube/store"
)

// Of items of any type the least one, of several the first; all are asked once.
func TestLeastP1401(t *testing.T) {
	length := func(s string) int { return len(s) }
	for _, x := range []struct{ items, want string }{
		{"a", "a"}, {"bb a", "a"}, {"a bb", "a"}, {"a b", "a"}, {"b a", "b"}, {"ccc bb aa d e", "d"}, {"cc bb a", "a"}, {"xxx yyy", "xxx"},
	} {
		if got, is := least(slices.Values(strings.Fields(x.items)), length); got != x.want || !is {
			t.Errorf("P1401: least of %s: %q, %v, not %q", x.items, got, is, x.want)
		}
	}
	if got, is := least(slices.Values([]string{}), length); got != "" || is {
		t.Errorf("P1401: least of none: %q, %v", got, is)
	}
	same := func(n int) int { return n }
	if got, is := least(slices.Values([]int{5, -7, 0}), same); got != -7 || !is {
		t.Errorf("P1401: %d, %v", got, is)
	}
	if got, is := least(slices.Values([]int{0}), same); got != 0 || !is {
		t.Errorf("P1401: %d, %v", got, is)
	}
}

// Who goes through cuboids, or cells, may stop at any one.
func TestStopsWhereItIsToldP1402(t *testing.T) {
	s := api.Schema{Cards: []int{2, 2}}
	x := store.New(999)
	x.Write("fact", rec.Encode(s, []api.Row{{Key: []int{0, 1}}, {Key: []int{1, 1}}}))
	build.Run(x, build.Config{Budget: 3}, 99)
	var sets []int
	for c := range committed(x, s, 1) {
		sets = append(sets, c.set)
	}
	if !slices.Equal(sets, []int{1, 3}) {
		t.Errorf("P1401: committed: %v", sets)
	}
	for c := range committed(x, s, 1) {
		if c.set != 1 || len(c.cells) != 2 {
			t.Errorf("P1401: the first one: %v", c)
		}
		for one := range c.letBy(nil) {
			if one.Key[0] != 0 {
				t.Errorf("P1402: the first one: %v", one)
			}
			break
		}
		break
	}
}
