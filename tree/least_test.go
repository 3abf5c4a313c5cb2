package tree

import (
	"iter"
	"slices"
	"testing"
)

func mustBeLeast(t *testing.T, list []string, want string) {
	t.Helper()
	size := func(text string) int { return len(text) - 3 }
	if got := least(slices.Values(list), size, "none"); got != want {
		t.Errorf("P1101: least of %q: %q, not %q", list, got, want)
	}
}

// An item's size may be above 0, below, or 0; that of none does not count.
func TestLeastP1101(t *testing.T) {
	mustBeLeast(t, nil, "none")
	mustBeLeast(t, []string{"abcde"}, "abcde")
	mustBeLeast(t, []string{"a"}, "a")
	mustBeLeast(t, []string{"abc"}, "abc")
	mustBeLeast(t, []string{"abcdef", "abcde"}, "abcde")
	mustBeLeast(t, []string{"abcde", "abcdef"}, "abcde")
	mustBeLeast(t, []string{"abc", "a", "ab"}, "a")
	mustBeLeast(t, []string{"abcd", "", "abc"}, "")
}

// Of several the first one, wherever they stand.
func TestLeastOfAlikeP1101(t *testing.T) {
	mustBeLeast(t, []string{"ab", "cd", "ef"}, "ab")
	mustBeLeast(t, []string{"abc", "de", "fg"}, "de")
	mustBeLeast(t, []string{"ab", "cde", "fg"}, "ab")
	mustBeLeast(t, []string{"abcdef", "ghijkl", "mnopqr", "st"}, "st")
}

// Each item is asked for once, and its size is.
func TestLeastAsksOnceP1101(t *testing.T) {
	told, asked := 0, 0
	items := iter.Seq[int](func(yield func(int) bool) {
		for n := range 5 {
			told++
			if !yield(n) {
				return
			}
		}
	})
	size := func(n int) float64 {
		asked++
		return float64(5-n) / 2
	}
	if got := least(items, size, -1); got != 4 || told != 5 || asked != 5 {
		t.Errorf("P1101: least %d of %d items, %d sizes", got, told, asked)
	}
}
