package build_test

import (
	"math"
	"math/rand"
	"reflect"
	"slices"
	"sync"
	"testing"

	"hypercube/api"
	"hypercube/build"
	"hypercube/rec"
	"hypercube/store"
)

// Each list that Done answers is filled, its spare room too; none may be another's, or the builder's.
func TestListsAreNewP2(t *testing.T) {
	x := five(t)
	b := opened(t, x, 3, api.BySort)
	var lists [][]int
	for range 16 {
		b.Step()
		lists = append(lists, b.Done(), b.Done())
	}
	for i, l := range lists {
		l = l[:cap(l)]
		for j := range l {
			l[j] = i
		}
	}
	for i, l := range lists {
		for _, v := range l[:cap(l)] {
			if v != i {
				t.Fatalf("P2: lists %d and %d share memory", i, v)
			}
		}
	}
	mustTell(t, b, 3, 3, 1, 2, 0)
	mustStep(t, b, true, api.OK)
}

func TestSameAgainP3(t *testing.T) {
	answers := func() []any {
		var out []any
		for algorithm := range 2 {
			x := five(t)
			b := opened(t, x, 3, algorithm)
			for range 17 {
				done, e := b.Step()
				out = append(out, done, e, b.Done(), b.High(), x.Trace(), x.Names())
			}
			for _, name := range x.Names() {
				out = append(out, read(x, name))
			}
		}
		return out
	}
	first := answers()
	for range 10 { // a map is gone through in another order each time
		if again := answers(); !reflect.DeepEqual(first, again) {
			t.Fatalf("P3: %v, then %v", first, again)
		}
	}
}

// Builders of stores of their own, in turn: what one has under way is nothing to the other one.
func TestBuildersAreApartP7(t *testing.T) {
	s, rows := small()
	one, two := filled(t, s, rows, roomOfAll), five(t)
	a, b := opened(t, one, 3, api.BySort), opened(t, two, 4, api.ByHash)
	for n := 1; n <= 15; n++ {
		steps(t, a, 1)
		if n%2 == 0 {
			steps(t, b, 1)
		}
	}
	mustTell(t, a, 2, 3, 1, 2, 0)
	mustTell(t, b, 1, 3)
	steps(t, b, 8)
	mustStep(t, a, true, api.OK)
	mustStep(t, b, true, api.OK)
	mustBeRight(t, one, s, rows)
	mustHave(t, "P7", two, "c0 c1 c2 c3 fact plan")
	if c := opened(t, one, 3, api.BySort); c == a {
		t.Error("P7: Open answers one that somebody has")
	}
}

// A crash leaves two stores; the builder goes on in its own.
func TestCrashIsAnotherP7(t *testing.T) {
	s, rows := small()
	x := filled(t, s, rows, roomOfAll)
	b := opened(t, x, 3, api.BySort)
	steps(t, b, 7)
	y := x.Crash([]int{2})
	had := read(y, "t")
	steps(t, b, 8)
	mustStep(t, b, true, api.OK)
	mustHave(t, "P7", y, "c3 fact plan t")
	if read(y, "t") != had || len(y.Trace()) != 0 {
		t.Error("P7: another store is touched")
	}
	mustRun(t, y, build.Config{Budget: 9}, 99, true, api.OK)
	mustBeLike(t, "P7", y, x)
}

func TestSideBySideP7(t *testing.T) {
	s, rows := small()
	want := filled(t, s, rows, roomOfAll)
	mustRun(t, want, build.Config{Budget: 3, Algorithm: api.ByHash}, 99, true, api.OK)
	var all sync.WaitGroup
	for range 8 {
		x := want.Crash(nil)
		for _, name := range []string{"plan", "c3", "c1", "c2", "c0"} {
			x.Remove(name)
		}
		all.Go(func() {
			done, e := build.Run(x, build.Config{Budget: 3, Algorithm: api.ByHash}, 99)
			if !done || e != api.OK || told(x.Names()) != told(want.Names()) || read(x, "c0") != read(want, "c0") {
				t.Errorf("P7: %v, %v, %v", done, e, x.Names())
			}
		})
	}
	all.Wait()
}

// A builder that Open has not answered has no store.
func TestNoStoreP8(t *testing.T) {
	var b build.Builder
	mustTell(t, &b, 0)
	mustStep(t, &b, false, api.Missing)
	mustTell(t, &b, 0)
}

// What its Parent's file has not got a builder can't make: it is refused, and nothing is done.
func TestSpoiltParentP8(t *testing.T) {
	s := api.Schema{Cards: []int{4, 3}}
	good := cuboidByHand(3, cellByHand("\x02\x01", 2))
	for _, bad := range []string{
		"", good[1:], good + "\x00", "\x01" + good[1:], cuboidByHand(7, cellByHand("\x01\x01\x01", 1)), cuboidByHand(1, cellByHand("\x01", 1)),
		cuboidByHand(3, cellByHand("\x04\x01", 2)), cuboidByHand(3, cellByHand("\x02\x03", 2)), cuboidByHand(3, cellByHand("\x02\x01", 0)),
		// Each cell may be, but not all of them together.
		cuboidByHand(3, cellByHand("\x02\x00", 300), cellByHand("\x02\x01", 1)),
	} {
		for algorithm := range 2 {
			x := filled(t, s, []api.Row{row([]int{2, 1}), row([]int{2, 1})}, roomOfAll)
			mustRun(t, x, build.Config{Budget: 3, Algorithm: algorithm}, 6, false, api.OK)
			x.Remove("c3")
			put(t, x, "c3", bad)
			had := len(x.Trace())
			mustRun(t, x, build.Config{Budget: 3, Algorithm: algorithm}, 9, false, api.BadInput)
			b := opened(t, x, 3, algorithm)
			mustStep(t, b, false, api.BadInput)
			mustStep(t, b, false, api.BadInput)
			if len(x.Trace()) != had {
				t.Errorf("P8: of %x something is done: %v", bad, x.Trace()[had:])
			}
		}
	}
}

// Where others take away what it needs, or what it has done, a builder tells so, or does it once more.
func TestTakenAwayP8(t *testing.T) {
	s, rows := small()
	for count := range 16 {
		for _, name := range []string{"fact", "plan", "t", "c3", "c1", "c2", "c0"} {
			x := filled(t, s, rows, roomOfAll)
			b := opened(t, x, 3, api.BySort)
			steps(t, b, count)
			if x.Remove(name) != api.OK {
				continue
			}
			done, e := false, api.OK
			for n := 0; n < 99 && !done && e == api.OK; n++ {
				done, e = b.Step()
			}
			if lost := name == "fact" && count < 4; lost != (e == api.Missing) || lost == done {
				t.Errorf("P8: %s is gone after %d: %v, %v", name, count, done, e)
			}
			mustBeRight(t, x, s, rows)
			if done && name != "fact" {
				mustHave(t, "P8", x, "c0 c1 c2 c3 fact plan")
			}
		}
	}
}

// Where others put what is not the builder's in the place of its facts, or of what it has under way, it commits nothing of that.
func TestOtherFilesP8(t *testing.T) {
	s, rows := small()
	x := filled(t, s, rows, roomOfAll)
	b := opened(t, x, 3, api.BySort)
	steps(t, b, 3)
	put(t, x, "fact", string(rec.Encode(api.Schema{Cards: []int{4}, Measures: 1}, []api.Row{row([]int{3}, 1)})))
	mustStep(t, b, false, api.BadInput)
	put(t, x, "fact", "none")
	mustStep(t, b, false, api.BadInput)
	put(t, x, "fact", string(rec.Encode(s, rows)))
	steps(t, b, 3)
	put(t, x, "t", "somebody's")
	steps(t, b, 4) // it goes, and the set 1 is there
	mustTell(t, b, 2, 3, 1)
	mustBeRight(t, x, s, rows)
	steps(t, b, 2)
	put(t, x, "c2", "somebody's")
	steps(t, b, 4) // what it has under way is nothing any more, and goes, too
	mustTell(t, b, 2, 3, 1, 2, 0)
	mustStep(t, b, true, api.OK)
	mustHave(t, "P8", x, "c0 c1 c2 c3 fact plan")
}

// spoilt is bytes that were changed here and there, or any.
func spoilt(die *rand.Rand, b []byte) []byte {
	b = slices.Clone(b)
	switch die.Intn(6) {
	case 0:
		b = b[:die.Intn(1+len(b))]
	case 1:
		b = append(b, byte(die.Intn(256)))
	case 2:
		if len(b) > 0 {
			b[die.Intn(len(b))] = byte(die.Intn(20))
		}
	case 3:
		b = make([]byte, die.Intn(30))
		die.Read(b)
	}
	return b
}

// Whatever files there are, and whatever others do meanwhile, each call ends and does not panic.
func TestAnyPlainDataP1(t *testing.T) {
	die := rand.New(rand.NewSource(101))
	numbers := []int{3, 0, 1, 4, 5, 2, -1, 300, 10001, math.MaxInt, math.MinInt}
	number := func() int { return numbers[die.Intn(1+die.Intn(len(numbers)))] }
	seen := map[api.Errno]int{}
	for range 4000 {
		s, rows := thrown(die, 12)
		if die.Intn(8) == 0 && s.Measures > 0 {
			for range 3 {
				rows = append(rows, row(make([]int, len(s.Cards)), slices.Repeat([]int{math.MaxInt}, s.Measures)...))
			}
		}
		whole := store.New(roomOfAll)
		put(t, whole, "fact", string(rec.Encode(s, rows)))
		build.Run(whole, build.Config{Budget: 9, Algorithm: die.Intn(2)}, 99)
		names := append(whole.Names(), "t", "c15")
		x := store.New(die.Intn(4000))
		meddle := func(odds int) {
			for _, name := range names {
				if die.Intn(odds) != 0 {
					continue
				}
				if b, is := whole.Read(name); is {
					x.Write(name, spoilt(die, b))
				} else {
					x.Write(name, spoilt(die, []byte("any")))
				}
				if die.Intn(2) == 0 {
					x.Sync(name)
				}
			}
			if die.Intn(odds) == 0 {
				x.Remove(names[die.Intn(len(names))])
				x.Publish("t", names[die.Intn(len(names))])
			}
		}
		if die.Intn(4) > 0 {
			b, _ := whole.Read("fact")
			x.Write("fact", b)
		}
		meddle(4)
		c := build.Config{Budget: number(), Algorithm: number()}
		b, e := build.Open(x, c)
		seen[e]++
		if e != api.OK {
			if done, again := build.Run(x, c, 9); done || again != e || b != nil {
				t.Fatalf("P4: %v, %v, %v, %v", done, again, b, e)
			}
			continue
		}
		for range 60 {
			done, e := b.Step()
			if done && e != api.OK {
				t.Fatalf("P4: done beside %v", e)
			}
			b.Done()
			b.High()
			seen[e]++
			if die.Intn(5) == 0 {
				meddle(9)
			}
		}
	}
	for e := api.OK; e <= api.BadConfig; e++ {
		if might := e != api.BadQuery && e != api.NotThere && e != api.Exists; might && seen[e] < 20 {
			t.Errorf("the die falls to one side: %v", seen)
		}
	}
}
