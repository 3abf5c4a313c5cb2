package exec

import (
	"math/rand"
	"slices"
	"testing"

	"hypercube/api"
	"hypercube/cell"
	"hypercube/hash"
)

// texts are a part whose items' values are their bytes.
func texts(items ...string) part[string] {
	return part[string]{items: items, value: func(item string, position int) int { return int(item[position]) }}
}

func mustPart(t *testing.T, p part[string], slots int, want ...[]string) {
	t.Helper()
	if got := slices.Collect(p.parts(slots)); !slices.EqualFunc(got, want, slices.Equal[[]string]) {
		t.Errorf("P1201: parts of %q by %d: %q, not %q", p.items, slots, got, want)
	}
}

func TestPartsP1201(t *testing.T) {
	mustPart(t, texts(), 1, nil)
	mustPart(t, texts("a"), 1, []string{"a"})
	mustPart(t, texts(""), 1, []string{""})
	mustPart(t, texts("a", "b"), 2, []string{"a", "b"})
	mustPart(t, texts("a", "b"), 1, []string{"a"}, []string{"b"})
	square := texts("aa", "ab", "ba", "bb", "bc")
	mustPart(t, square, 5, []string{"aa", "ab", "ba", "bb", "bc"})
	mustPart(t, square, 4, []string{"aa", "ab"}, []string{"ba", "bb", "bc"})
	mustPart(t, square, 3, []string{"aa", "ab"}, []string{"ba", "bb", "bc"})
	mustPart(t, square, 2, []string{"aa", "ab"}, []string{"ba"}, []string{"bb"}, []string{"bc"})
	mustPart(t, square, 1, []string{"aa"}, []string{"ab"}, []string{"ba"}, []string{"bb"}, []string{"bc"})
	// A position that has one value parts nothing.
	mustPart(t, texts("xxa", "xxb", "xya"), 2, []string{"xxa", "xxb"}, []string{"xya"})
	mustPart(t, texts("xaa", "xab"), 1, []string{"xaa"}, []string{"xab"})
}

// A loop over parts may be left at each of them.
func TestPartsAreLeftP1201(t *testing.T) {
	for most := range 5 {
		var got []string
		for some := range texts("aa", "ab", "ba", "bb", "bc").parts(1) {
			if got = append(got, some...); len(got) > most {
				break
			}
		}
		if want := []string{"aa", "ab", "ba", "bb", "bc"}[:most+1]; !slices.Equal(got, want) {
			t.Errorf("P1201: %q, not %q", got, want)
		}
	}
}

func TestLongestP1201(t *testing.T) {
	for _, x := range []struct {
		list [][]byte
		want int
	}{
		{nil, 0}, {[][]byte{nil}, 0}, {[][]byte{nil, {1}, {}}, 1}, {[][]byte{{1, 2}, {3}}, 2}, {[][]byte{{1}, {2, 3, 4}, {5, 6}}, 3},
	} {
		if got := longest(slices.Values(x.list)); got != x.want {
			t.Errorf("P1201: longest of %v: %d, not %d", x.list, got, x.want)
		}
	}
}

// With runs of the budget's length no merge can hold more than they do: so the numbers here are others.
func TestHighOfMergeP1201(t *testing.T) {
	for _, x := range []struct{ longest, count, fan, want int }{
		{0, 0, 2, 0}, {0, 1, 2, 0}, {1, 1, 2, 1}, {1, 1, 9, 1}, {7, 1, 2, 7},
		{1, 2, 2, 3}, {1, 2, 9, 3}, {1, 9, 2, 3}, {1, 5, 4, 5}, {1, 4, 5, 5}, {1, 5, 5, 6},
		{2, 2, 2, 3}, {3, 2, 2, 3}, {4, 2, 2, 4}, {7, 9, 6, 7}, {6, 9, 6, 7}, {8, 9, 6, 8},
	} {
		if got := highOfMerge(x.longest, x.count, x.fan); got != x.want {
			t.Errorf("P1201: of %d runs, the longest of %d, fan %d: %d, not %d", x.count, x.longest, x.fan, got, x.want)
		}
	}
}

// The parts that are found by keys are as many as hash.Group has made.
func TestPartsAreThoseOfHashP1201(t *testing.T) {
	die := rand.New(rand.NewSource(24))
	seen := map[bool]int{}
	for range 2000 {
		var cells []api.Cell
		dims, values := die.Intn(5), 1+die.Intn(16)
		for range die.Intn(60) {
			key := make([]int, dims)
			for i := range key {
				key[i] = die.Intn(values)
			}
			cells = append(cells, api.Cell{Key: key, Count: 1})
		}
		slots := 1 + die.Intn(1+die.Intn(30))
		made, parts := hash.Group(cells, slots)
		var got []api.Cell
		count := 0
		for some := range wholeOf(made).parts(slots) {
			got = append(got, some...)
			count++
		}
		same := func(a, b api.Cell) bool { return cell.Less(a.Key, b.Key) == 0 }
		if count != parts || !slices.EqualFunc(got, made, same) {
			t.Fatalf("P1201: of %v by %d: %d parts, not %d", cells, slots, count, parts)
		}
		seen[parts > 1]++
	}
	if seen[true] < 500 || seen[false] < 200 {
		t.Errorf("the die falls to one side: %v", seen)
	}
}
