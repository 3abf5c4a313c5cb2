package match

import (
	"maps"
	"slices"
	"testing"
)

func TestColumnsP901(t *testing.T) {
	var taken columns
	for count, column := range []int{3, 0, 11, 5} {
		if taken.has(column) || taken.next() != count {
			t.Errorf("P901: of %b: column %d, row %d", taken, column, taken.next())
		}
		taken = taken.with(column)
		if !taken.has(column) || taken.has(column+1) || taken.with(column) != taken {
			t.Errorf("P901: with %d: %b", column, taken)
		}
	}
	if taken != 0b100000101001 {
		t.Errorf("P901: taken: %b", taken)
	}
}

func TestRestsP901(t *testing.T) {
	for _, x := range []struct {
		cost [][]int
		want rests
	}{
		{nil, rests{0}},
		{[][]int{{7}}, rests{7, 0}},
		{[][]int{{7, 4}}, rests{4, 0, 0, 0}},
		{[][]int{{1, 2}, {1, 9}}, rests{3, 9, 1, 0}},
		{[][]int{{5, 6, 9}, {2, 4, 8}}, rests{8, 4, 2, 0, 2, 0, 0, 0}},
	} {
		if got := restsOf(x.cost); !slices.Equal(got, x.want) {
			t.Errorf("P901: rests of %v: %v, not %v", x.cost, got, x.want)
		}
	}
}

// Who has seen enough is told no more.
func TestOffersP901(t *testing.T) {
	rest := rests{0, 0, 0, 10, 0, 0, 20, 0}
	row := []int{1, 2, 3}
	if got := maps.Collect(rest.offers(row, 2)); !maps.Equal(got, map[int]int{0: 11, 2: 23}) {
		t.Errorf("P901: offers: %v", got)
	}
	var seen []int
	for column := range rest.offers(row, 0) {
		seen = append(seen, column)
		if column == 1 {
			break
		}
	}
	if !slices.Equal(seen, []int{0, 1}) {
		t.Errorf("P901: offers: columns %v", seen)
	}
	for column := range rest.offers(row, 7) {
		t.Errorf("P901: offers: column %d is taken", column)
	}
}

func TestLeastP901(t *testing.T) {
	for _, x := range []struct {
		list []int
		want int
	}{{nil, 0}, {[]int{7}, 7}, {[]int{3, 2, 5, 2}, 2}, {[]int{0, 1}, 0}, {[]int{-4, 0, -9}, -9}} {
		if got := least(slices.All(x.list)); got != x.want {
			t.Errorf("P901: least of %v: %d", x.list, got)
		}
	}
	if got := least(maps.All(map[string]string{"a": "y", "b": "x", "c": "z"})); got != "x" {
		t.Errorf("P901: least of texts: %s", got)
	}
}

func TestEveryP901(t *testing.T) {
	for _, x := range []struct {
		text string
		want bool
	}{{"", true}, {"a", true}, {"aa", true}, {"b", false}, {"ba", false}, {"ab", false}, {"aba", false}} {
		if got := every([]byte(x.text), func(c byte) bool { return c == 'a' }); got != x.want {
			t.Errorf("P901: every of %q: %v", x.text, got)
		}
	}
}
