package hash

import (
	"slices"
	"testing"
)

// text stands by its first letter, a at place 0; a join of texts shows what was joined with what, in which order.
type text string

func (a text) place() int            { return int(a[0] - 'a') }
func (a text) like(b text) bool      { return a[0] == b[0] }
func (a text) with(b text) text      { return text(a[0]) + "(" + a + " " + b + ")" }
func textsIn(slots int) *table[text] { return &table[text]{slots: make([]slot[text], slots)} }

// The order of joining is to be seen here: that of cells hides it.
func TestJoinedBehindP701(t *testing.T) {
	list := textsIn(3)
	for _, x := range []text{"a1", "b1", "a2", "a3", "b2"} {
		if !list.put(x) {
			t.Errorf("P701: no place for %s", x)
		}
	}
	if got, want := list.entries(), []text{"a(a(a1 a2) a3)", "b(b1 b2)"}; !slices.Equal(got, want) || list.used != 2 {
		t.Errorf("P701: %v of %d, not %v", got, list.used, want)
	}
}

func TestSlotBySlotRoundP701(t *testing.T) {
	for _, x := range []struct {
		slots   int
		in      []text
		want    []text
		refused []text
	}{
		{0, []text{"a"}, nil, []text{"a"}},
		{1, []text{"z", "a", "z"}, []text{"z(z z)"}, []text{"a"}},
		{3, []text{"c", "b", "a"}, []text{"a", "b", "c"}, nil},
		{3, []text{"c", "f", "i"}, []text{"f", "i", "c"}, nil},
		{3, []text{"b", "e", "h", "k"}, []text{"h", "b", "e"}, []text{"k"}},
		{3, []text{"e", "b", "h", "b", "h", "a"}, []text{"h(h h)", "e", "b(b b)"}, []text{"a"}},
		{4, []text{"d", "h", "a"}, []text{"h", "a", "d"}, nil},
		{4, []text{"a", "b", "e", "d", "d"}, []text{"a", "b", "e", "d(d d)"}, nil},
		{5, []text{"b", "g", "b", "a", "l", "q", "v", "a"}, []text{"a(a a)", "b(b b)", "g", "l", "q"}, []text{"v"}},
	} {
		list := textsIn(x.slots)
		var refused []text
		for _, e := range x.in {
			if !list.put(e) {
				refused = append(refused, e)
			}
		}
		if got := list.entries(); !slices.Equal(got, x.want) || !slices.Equal(refused, x.refused) || list.used != len(x.want) {
			t.Errorf("P701: of %v in %d: %v of %d, refused %v", x.in, x.slots, got, list.used, refused)
		}
		for _, e := range x.want {
			if got, is := list.get(e[:1]); !is || got != e {
				t.Errorf("P701: get %s of %v: %s, %v", e, x.want, got, is)
			}
		}
		if got, is := list.get("y"); is || got != "" {
			t.Errorf("P701: get of none: %s", got)
		}
	}
}

// The places of short keys, counted by hand.
func TestPlaceP701(t *testing.T) {
	for _, x := range []struct {
		key  []int
		want int
	}{
		{nil, 7}, {[]int{0}, 218}, {[]int{1}, 219}, {[]int{15}, 233}, {[]int{0, 0}, 6759}, {[]int{0, 1}, 6760}, {[]int{1, 0}, 6790},
		{[]int{15, 15}, 7239}, {[]int{0, 0, 0}, 209530}, {[]int{15, 15, 15}, 224425}, {[]int{0, 0, 0, 0}, 495413}, {[]int{15, 15, 15, 15}, 957173},
		{[]int{0, 0, 0, 0, 0}, 31*495413 + 1 - 15*1000003},
	} {
		if got := (keyed{Key: x.key}).place(); got != x.want {
			t.Errorf("P701: place of %v: %d, not %d", x.key, got, x.want)
		}
	}
}
