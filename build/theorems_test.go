package build_test

import (
	"math/rand"
	"slices"
	"testing"

	"hypercube/api"
	"hypercube/build"
	"hypercube/rec"
	"hypercube/sorts"
	"hypercube/store"
	"hypercube/tree"
)

// mustNotTouch holds what a store had committed against what was done to it (T3): only t is written, made sure, removed; nothing is published twice.
func mustNotTouch(t *testing.T, had []string, deeds []store.Op) {
	t.Helper()
	had = slices.Clone(had)
	for _, op := range deeds {
		if op.Kind != store.Published && op.Name != "t" || op.Kind == store.Published && slices.Contains(had, op.Name) {
			t.Fatalf("T3: %v: %v, with %v there", deeds, op, had)
		}
		if op.Kind == store.Published {
			had = append(had, op.Name)
		}
	}
}

// committed are the names of all but what is under way.
func committed(x *store.Store) []string {
	return slices.DeleteFunc(x.Names(), func(name string) bool { return name == "t" })
}

// mustStay tells that files are there, as they were.
func mustStay(t *testing.T, was, is *store.Store, names []string) {
	t.Helper()
	for _, name := range names {
		if read(was, name) != read(is, name) {
			t.Fatalf("T2: %s: %s, then %s", name, read(was, name), read(is, name))
		}
	}
}

// namesOf are those that a build leaves (T7).
func namesOf(dims int) []string {
	names := []string{"fact", "plan"}
	for set := range 1 << dims {
		names = append(names, build.Name(set))
	}
	slices.Sort(names)
	return names
}

// Whatever the facts, the algorithm, the budget: the group-by, within the budget, and nothing left.
func TestWholeByDiceP1303(t *testing.T) {
	die := rand.New(rand.NewSource(13))
	for range 400 {
		s, rows := thrown(die, []int{3, 30, 300}[die.Intn(3)])
		c := build.Config{Budget: 3 + die.Intn(1+die.Intn(40)), Algorithm: die.Intn(2)}
		if !rec.Sound(s, rows) {
			t.Fatal("the die throws too high")
		}
		x := filled(t, s, rows, roomOfAll)
		b := opened(t, x, c.Budget, c.Algorithm)
		plan := sorts.Plan(s, len(rows))
		if c.Algorithm == api.ByHash {
			plan = tree.Plan(s, len(rows))
		}
		var sets []int
		steps(t, b, 3)
		for _, edge := range plan {
			steps(t, b, 3)
			sets = append(sets, edge.Set)
			if told(b.Done()) != told(sets) || mustBeRight(t, x, s, rows) != len(sets) {
				t.Fatalf("P1301: Done: %v, not %v", b.Done(), sets)
			}
			if b.High() > c.Budget || len(rows) > 0 && b.High() < 1 {
				t.Fatalf("T4: %d of %d", b.High(), c.Budget)
			}
		}
		mustStep(t, b, true, api.OK)
		if told(x.Names()) != told(namesOf(len(s.Cards))) {
			t.Fatalf("T7: %v", x.Names())
		}
		mustNotTouch(t, []string{"fact"}, x.Trace()[2:])
	}
}

// Each place to be cut off at, each thing that a crash leaves of what is under way, each place to be cut off at again.
func TestCutAnywhereP1303(t *testing.T) {
	s, rows := small()
	for algorithm := range 2 {
		whole := filled(t, s, rows, roomOfAll)
		mustRun(t, whole, build.Config{Budget: 9, Algorithm: algorithm}, 16, true, api.OK)
		for first := range 17 {
			for keep := range 4 {
				x := filled(t, s, rows, roomOfAll)
				mustRun(t, x, build.Config{Budget: 3, Algorithm: algorithm}, first, first > 15, api.OK)
				left := x.Crash([]int{keep})
				mustStay(t, x, left, committed(x))
				mustBeRight(t, left, s, rows)
				for second := range 18 {
					y := left.Crash(nil)
					had := committed(y)
					build.Run(y, build.Config{Budget: 4, Algorithm: algorithm}, second)
					mustStay(t, left, y, had)
					mustNotTouch(t, had, y.Trace())
					z := y.Crash([]int{3 - keep})
					mustRun(t, z, build.Config{Budget: 5, Algorithm: algorithm}, 17, true, api.OK)
					mustBeLike(t, "T2", z, whole)
				}
			}
		}
	}
}

// Builds are cut off again and again, each time by a step or a few, with facts and budgets by dice.
func TestCutByDiceP1303(t *testing.T) {
	die := rand.New(rand.NewSource(31))
	for range 200 {
		s, rows := thrown(die, 40)
		c := build.Config{Budget: 3 + die.Intn(9), Algorithm: die.Intn(2)}
		whole := filled(t, s, rows, roomOfAll)
		mustRun(t, whole, c, 999, true, api.OK)
		x := filled(t, s, rows, roomOfAll)
		had := []string{"fact"}
		for range 30 {
			c.Budget = 3 + die.Intn(9)
			begun := len(x.Trace())
			if _, e := build.Run(x, c, die.Intn(10)); e != api.OK {
				t.Fatalf("T2: %v", e)
			}
			mustNotTouch(t, had, x.Trace()[begun:])
			had = committed(x)
			y := x.Crash([]int{die.Intn(4)})
			mustStay(t, x, y, had)
			mustBeRight(t, y, s, rows)
			x = y
		}
		mustRun(t, x, c, 999, true, api.OK)
		mustBeLike(t, "T2", x, whole)
	}
}

// Facts that are not sure may be lost, by a crash, or half of them.
func TestFactsLostP1303(t *testing.T) {
	s, rows := small()
	x := store.New(roomOfAll)
	x.Write("fact", rec.Encode(s, rows))
	mustRun(t, x, build.Config{Budget: 3}, 16, true, api.OK)
	for keep, want := range []api.Errno{api.Missing, api.OK, api.BadInput, api.Missing} {
		mustRun(t, x.Crash([]int{keep}), build.Config{Budget: 3}, 1, want == api.OK, want)
	}
}

// The files are the same whatever the budget and the algorithm, but for the plan's word.
func TestWhateverTheWayP1303(t *testing.T) {
	die := rand.New(rand.NewSource(7))
	for range 30 {
		s, rows := thrown(die, 60)
		want := filled(t, s, rows, roomOfAll)
		mustRun(t, want, build.Config{Budget: 300}, 999, true, api.OK)
		want.Remove("plan")
		for algorithm := range 2 {
			for _, budget := range []int{3, 4, 5, 8, 13, 299, 1 << 40} {
				x := filled(t, s, rows, roomOfAll)
				mustRun(t, x, build.Config{Budget: budget, Algorithm: algorithm}, 999, true, api.OK)
				x.Remove("plan")
				mustBeLike(t, "T1", x, want)
			}
		}
	}
}
