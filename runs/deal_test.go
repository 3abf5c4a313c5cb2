package runs

import (
	"maps"
	"slices"
	"testing"

	"hypercube/api"
)

// letters tells each letter of a text by itself.
func letters(text string) func(func(byte, string) bool) {
	return func(yield func(byte, string) bool) {
		for i := range len(text) {
			if !yield(text[i], text[i:i+1]) {
				return
			}
		}
	}
}

func together(a, b string) string { return a + b }

// A join by which the order is to be seen: that of cells hides it.
func TestJoinedBehindP501(t *testing.T) {
	count := 0
	numbered := func(yield func(bool, int) bool) {
		for i := range 6 {
			count++
			if !yield(i%2 == 0, i) {
				return
			}
		}
	}
	got := slices.Collect(pieces(numbered, 2, func(a, b int) int { return 10*a + b }))
	if len(got) != 1 || !slices.Equal(got[0], []int{24, 135}) || count != 6 {
		t.Errorf("P501: %v of %d", got, count)
	}
}

func TestPiecesP501(t *testing.T) {
	for _, x := range []struct {
		text string
		most int
		want [][]string
	}{
		{"", 1, nil}, {"a", 1, [][]string{{"a"}}}, {"aab", 1, [][]string{{"aa"}, {"b"}}}, {"abab", 2, [][]string{{"aa", "bb"}}},
		{"abcab", 2, [][]string{{"a", "b"}, {"c", "a"}, {"b"}}}, {"abcab", 9, [][]string{{"aa", "bb", "c"}}},
	} {
		dealt := pieces(letters(x.text), x.most, together)
		for range 2 { // gone through twice, it tells the same
			if got := slices.Collect(dealt); !slices.EqualFunc(got, x.want, slices.Equal) {
				t.Errorf("P501: of %s, %d at most: %v", x.text, x.most, got)
			}
		}
	}
}

// Who is told a piece may leave; a piece stays his.
func TestLeftEarlyP1(t *testing.T) {
	for enough := 1; enough < 4; enough++ {
		var got [][]string
		for piece := range pieces(letters("abcdefg"), 2, together) {
			got = append(got, piece)
			if len(got) == enough {
				break
			}
		}
		if want := [][]string{{"a", "b"}, {"c", "d"}, {"e", "f"}}[:enough]; !slices.EqualFunc(got, want, slices.Equal) {
			t.Errorf("P1: the first %d: %v", enough, got)
		}
	}
	for range keyed(make([]api.Cell, 3)) {
		break
	}
	for a, b := range neighbours([]int{1, 2, 3}) {
		if a != 1 || b != 2 {
			t.Errorf("P1: %d, %d", a, b)
		}
		break
	}
}

func TestNeighboursP501(t *testing.T) {
	if got := maps.Collect(neighbours([]int{4, 9, 1, 7})); !maps.Equal(got, map[int]int{4: 9, 9: 1, 1: 7}) {
		t.Errorf("P501: %v", got)
	}
	for _, list := range [][]int{nil, {}, {5}} {
		for a, b := range neighbours(list) {
			t.Errorf("P501: of %v: %d, %d", list, a, b)
		}
	}
}
