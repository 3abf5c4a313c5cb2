package merge

import (
	"slices"
	"strings"
	"testing"
)

// texts stand by their first letter; a join of them shows what was joined with what, in which order.
func texts() kind[string] {
	return kind[string]{
		compare: func(a, b string) int { return strings.Compare(letter(a), letter(b)) },
		join:    func(a, b string) string { return letter(a) + "(" + a + " " + b + ")" },
	}
}

func letter(text string) string { return text[:1] }

// lists makes a list of each text, an item of each of its words.
func lists(words ...string) [][]string {
	var out [][]string
	for _, w := range words {
		out = append(out, strings.Fields(w))
	}
	return out
}

// A join by which the order is to be seen: that of cells hides it.
func TestTheFirstGoesFirstP601(t *testing.T) {
	for _, x := range []struct {
		of   [][]string
		want string
	}{
		{nil, ""}, {lists(""), ""}, {lists("", "", ""), ""}, {lists("", "a1", ""), "a1"},
		{lists("a1", "a2"), "a(a1 a2)"},
		{lists("a2", "a1"), "a(a2 a1)"},
		{lists("a1 c1", "b2 c2"), "a1 b2 c(c1 c2)"},
		{lists("b9", "a1 b1", "b5 c5", "a0"), "a(a1 a0) b(b(b9 b1) b5) c5"},
		{lists("a1", "a2", "", "a3", "a4", "a5"), "a(a(a(a(a1 a2) a3) a4) a5)"},
		{lists("d1", "c2 d2", "b3 c3 d3", "a4 b4 c4 d4"), "a4 b(b3 b4) c(c(c2 c3) c4) d(d(d(d1 d2) d3) d4)"},
	} {
		for range 2 { // what is handed in is still as it was
			if got := strings.Join(texts().one(x.of), " "); got != x.want {
				t.Errorf("P601: one of %v: %s, not %s", x.of, got, x.want)
			}
		}
	}
}

func TestEachFanOneBehindTheOtherP601(t *testing.T) {
	seven := lists("a1 b1", "a2", "a3", "a4", "a5", "a6 z6", "a7")
	for _, x := range []struct {
		of     [][]string
		fan    int
		want   string
		passes int
	}{
		{nil, 2, "", 0},
		{lists("a1 b1"), 2, "a1 b1", 0},
		{lists("", ""), 2, "", 1},
		{seven[:3], 2, "a(a(a1 a2) a3) b1", 2},
		{seven[:5], 2, "a(a(a(a1 a2) a(a3 a4)) a5) b1", 3},
		{seven, 2, "a(a(a(a1 a2) a(a3 a4)) a(a(a5 a6) a7)) b1 z6", 3},
		{seven, 3, "a(a(a(a(a1 a2) a3) a(a(a4 a5) a6)) a7) b1 z6", 2},
		{seven, 6, "a(a(a(a(a(a(a1 a2) a3) a4) a5) a6) a7) b1 z6", 2},
		{seven[1:], 5, "a(a(a(a(a(a2 a3) a4) a5) a6) a7) z6", 2},
		{seven[1:5], 7, "a(a(a(a2 a3) a4) a5)", 1},
	} {
		got, passes := texts().merge(x.of, x.fan)
		if strings.Join(got, " ") != x.want || passes != x.passes {
			t.Errorf("P601: of %v by %d: %v, %d, not %s, %d", x.of, x.fan, got, passes, x.want, x.passes)
		}
	}
}

// Who is told may leave, and come again.
func TestLeftEarlyP1(t *testing.T) {
	told := texts().alike(lists("a1 b1 c1", "b2 d2", "b3 c3"))
	want := lists("a1", "b1 b2 b3", "c1 c3", "d2")
	for enough := 1; enough <= len(want); enough++ {
		var got [][]string
		for same := range told {
			got = append(got, same)
			if len(got) == enough {
				break
			}
		}
		if !slices.EqualFunc(got, want[:enough], slices.Equal) {
			t.Errorf("P1: the first %d: %v", enough, got)
		}
	}
}
