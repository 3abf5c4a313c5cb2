package store_test

import (
	"math"
	"reflect"
	"slices"
	"strings"
	"testing"

	"hypercube/api"
	"hypercube/store"
)

func TestNothingHandedInChangesP2(t *testing.T) {
	b, keep := []byte("123456789"), []int{2, 0, 1, 9, 9}
	s := store.New(20)
	s.Write("a", b[:4])
	s.Write("b", b[:5])
	s.Sync("a")
	s.Write("a", b[:3])
	s.Crash(keep[:3])
	s.Crash(keep[:1])
	if string(b) != "123456789" || !slices.Equal(keep, []int{2, 0, 1, 9, 9}) {
		t.Errorf("P2: what was handed in is changed: %s, %v", b, keep)
	}
}

func TestNothingHandedInIsKeptP2(t *testing.T) {
	b, keep := []byte("123456789"), []int{1, 2}
	s := store.New(20)
	s.Write("a", b)
	s.Sync("a")
	s.Write("a", b[:5])
	s.Write("b", b[3:])
	other := s.Crash(keep)
	clear(b)
	clear(keep)
	mustHold(t, "P2", s, "a=12345 b=456789 11")
	mustHold(t, "P2", other, "a=12345 b=456 8")
	mustHold(t, "P2", s.Crash(nil), "a=123456789 9")
}

// spoil writes all over a list, its spare room too.
func spoil[E any](list []E, with E) {
	list = list[:cap(list)]
	for i := range list {
		list[i] = with
	}
}

func TestAnswersAreNewMemoryP2(t *testing.T) {
	s := store.New(100)
	synced(t, s, "a", "past")
	write(t, s, "a", "1234567")
	write(t, s, "b", "567890")
	synced(t, s, "c", "sure")
	stores := []*store.Store{s, s.Crash([]int{2, 2}), s.Crash([]int{1, 1}), s.Crash(nil)}
	want := []string{"a=1234567 b=567890 c=sure 17", "a=123 b=567 c=sure 10", "a=1234567 b=567890 c=sure 17", "a=past c=sure 8"}
	deeds := s.Trace()
	for range 2 {
		for _, x := range stores {
			for _, name := range x.Names() {
				b, _ := x.Read(name)
				spoil(b, '!')
			}
			spoil(x.Names(), "!")
			spoil(x.Trace(), store.Op{Kind: 9, Name: "!"})
		}
		for i, x := range stores {
			mustHold(t, "P2", x, want[i])
		}
		mustTrace(t, s, deeds...)
		mustHold(t, "P2", s.Crash(nil), want[3])
	}
	// nor does the store write into what it answered
	names, deeds, b := s.Names(), s.Trace(), must(s.Read("a"))
	s.Write("a", []byte("-------"))
	s.Write("!", nil)
	s.Remove("c")
	if !slices.Equal(names, []string{"a", "b", "c"}) || string(b) != "1234567" || len(deeds) != 6 || deeds[5].Kind != store.Synced {
		t.Errorf("P2: what was answered is changed: %q, %s, %v", names, b, deeds)
	}
}

func must(b []byte, _ bool) []byte { return b }

func TestSameAgainP3(t *testing.T) {
	answers := func() []any {
		s := torn(t)
		var out []any
		for _, x := range []*store.Store{s, s.Crash(nil), s.Crash([]int{2, 1})} {
			for range 2 { // to ask changes nothing
				out = append(out, x.Names(), x.Used(), x.Trace(), holds(t, x), holds(t, x.Crash([]int{0, 2})))
			}
		}
		return out
	}
	first := answers()
	for range 20 { // a map is gone through in another order each time
		if again := answers(); !reflect.DeepEqual(first, again) {
			t.Fatalf("P3: %v, then %v", first, again)
		}
	}
}

func TestErrorsChangeNothingP5(t *testing.T) {
	s := torn(t)
	had, deeds, all := holds(t, s), s.Trace(), []int{1, 1, 1, 1}
	sure, kept := holds(t, s.Crash(nil)), holds(t, s.Crash(all))
	for i, e := range []api.Errno{
		s.Write("", nil), s.Write(strings.Repeat("n", 21), nil), s.Write("a", make([]byte, 101)), s.Write("g", make([]byte, 101)),
		s.Sync("g"), s.Sync(""), s.Publish("a", ""), s.Publish("g", "h"), s.Publish("f", "g"), s.Publish("a", "e"), s.Publish("a", "f"),
		s.Publish("a", "a"), s.Remove("g"), s.Remove(""),
	} {
		if e == api.OK {
			t.Errorf("P401: %d is OK", i)
		}
	}
	mustHold(t, "P5", s, had)
	mustTrace(t, s, deeds...)
	mustHold(t, "P5", s.Crash(nil), sure)
	mustHold(t, "P5", s.Crash(all), kept)
}

func TestStoresAreApartP7(t *testing.T) {
	a, b := store.New(9), store.New(9)
	if a == b {
		t.Fatal("P7: New answers one that somebody has")
	}
	synced(t, a, "a", "123456789")
	mustHold(t, "P7", b, "0")
	mustTrace(t, b)
	write(t, b, "b", "987654321")
	mustHold(t, "P7", a, "a=123456789 9")
	// a crash leaves two that go their own ways
	c, d := a.Crash(nil), a.Crash(nil)
	if c == a || c == d {
		t.Fatal("P7: Crash answers one that somebody has")
	}
	write(t, a, "a", "1")
	mustBe(t, "P7", c.Remove("a"), api.OK)
	mustBe(t, "P7", d.Publish("a", "d"), api.OK)
	write(t, c, "c", "2")
	mustHold(t, "P7", a, "a=1 1")
	mustHold(t, "P7", c, "c=2 1")
	mustHold(t, "P7", d, "d=123456789 9")
	mustHold(t, "P7", a.Crash(nil), "a=123456789 9")
	mustTrace(t, c, store.Op{Kind: store.Removed, Name: "a"}, store.Op{Kind: store.Wrote, Name: "c"})
	mustTrace(t, d, store.Op{Kind: store.Published, Name: "d"})
}

// What may not be handed in: the calls end, and do not panic; there is no room for even a file of no bytes.
func TestLimitsBelowNothingP8(t *testing.T) {
	for _, below := range []int{-1, -300, math.MinInt + 1, math.MinInt} {
		s := store.New(below)
		for _, b := range [][]byte{nil, {}, {1}, make([]byte, 300)} {
			mustBe(t, "P9", s.Write("a", b), api.Full)
			mustBe(t, "P9", s.Crash([]int{1}).Write("a", b), api.Full)
		}
		mustBe(t, "P8", s.Write("", nil), api.BadInput)
		mustBe(t, "P8", s.Sync("a"), api.Missing)
		mustBe(t, "P8", s.Publish("a", "b"), api.Missing)
		mustBe(t, "P8", s.Remove("a"), api.Missing)
		mustHold(t, "P8", s, "0")
		mustTrace(t, s)
	}
}
