package lattice

import (
	"slices"
	"testing"
)

// W1: the bit of value 1 is dimension 0.
func TestDimensionsRiseP801(t *testing.T) {
	for set, want := range map[int][]dimension{0: nil, 1: {0}, 2: {1}, 4: {2}, 8: {3}, 3: {0, 1}, 9: {0, 3}, 10: {1, 3}, 14: {1, 2, 3}, 15: {0, 1, 2, 3}} {
		if got := slices.Collect(dimensions(set)); !slices.Equal(got, want) {
			t.Errorf("P801: dimensions of %d: %v", set, got)
		}
		var alone int
		for _, d := range want {
			alone |= d.alone()
		}
		if alone != set {
			t.Errorf("P801: the dimensions of %d are %d", set, alone)
		}
	}
}

// Who has seen enough is told no more.
func TestDimensionsStopP801(t *testing.T) {
	for count := 1; count <= 4; count++ {
		var seen []dimension
		for d := range dimensions(15) {
			seen = append(seen, d)
			if len(seen) == count {
				break
			}
		}
		if want := []dimension{0, 1, 2, 3}[:count]; !slices.Equal(seen, want) {
			t.Errorf("P801: the first %d: %v", count, seen)
		}
	}
}

// The order of taking is to be seen in a text.
func TestFoldedInOrderP801(t *testing.T) {
	taking := func(have string, n int) string { return "(" + have + string(rune('a'+n)) + ")" }
	for want, list := range map[string][]int{".": nil, "(.c)": {2}, "(((.a)c)b)": {0, 2, 1}} {
		if got := folded(slices.Values(list), ".", taking); got != want {
			t.Errorf("P801: %v folded: %s", list, got)
		}
	}
}
