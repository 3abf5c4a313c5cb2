package build_test

import (
	"encoding/binary"
	"fmt"
	"math"
	"math/rand"
	"slices"
	"strings"
	"testing"

	"hypercube/api"
	"hypercube/build"
	"hypercube/rec"
	"hypercube/store"
)

// roomOfAll is more bytes than any build here takes.
const roomOfAll = 1 << 20

// told writes what counts: no list and an empty one are the same.
func told(x any) string { return fmt.Sprint(x) }

func row(key []int, m ...int) api.Row { return api.Row{Key: key, M: m} }

// filled is a store that has facts, which are sure.
func filled(t *testing.T, s api.Schema, rows []api.Row, limit int) *store.Store {
	t.Helper()
	x := store.New(limit)
	put(t, x, "fact", string(rec.Encode(s, rows)))
	return x
}

// put gives a store a file that is sure.
func put(t *testing.T, x *store.Store, name, b string) {
	t.Helper()
	if e := x.Write(name, []byte(b)); e != api.OK {
		t.Fatalf("Write %s: %v", name, e)
	}
	x.Sync(name)
}

func opened(t *testing.T, x *store.Store, budget, algorithm int) *build.Builder {
	t.Helper()
	b, e := build.Open(x, build.Config{Budget: budget, Algorithm: algorithm})
	if e != api.OK || b == nil {
		t.Fatalf("P1301: Open: %v", e)
	}
	return b
}

func mustStep(t *testing.T, b *build.Builder, done bool, want api.Errno) {
	t.Helper()
	if got, e := b.Step(); got != done || e != want {
		t.Fatalf("P1302: Step: %v, %v, not %v, %v", got, e, done, want)
	}
}

func steps(t *testing.T, b *build.Builder, count int) {
	t.Helper()
	for range count {
		mustStep(t, b, false, api.OK)
	}
}

func mustRun(t *testing.T, x *store.Store, c build.Config, count int, done bool, want api.Errno) {
	t.Helper()
	if got, e := build.Run(x, c, count); got != done || e != want {
		t.Fatalf("P1302: Run of %v, %d: %v, %v, not %v, %v", c, count, got, e, done, want)
	}
}

func mustHave(t *testing.T, promise string, x *store.Store, names string) {
	t.Helper()
	if got := strings.Join(x.Names(), " "); got != names {
		t.Fatalf("%s: %s, not %s", promise, got, names)
	}
}

func mustTell(t *testing.T, b *build.Builder, high int, done ...int) {
	t.Helper()
	if got := b.Done(); told(got) != told(done) || b.High() != high {
		t.Fatalf("P1301: %v, %d, not %v, %d", got, b.High(), done, high)
	}
}

// deedsOf are a file's three, as the trace tells them.
func deedsOf(name string) []store.Op {
	return []store.Op{{Kind: store.Wrote, Name: "t"}, {Kind: store.Synced, Name: "t"}, {Kind: store.Published, Name: name}}
}

func read(x *store.Store, name string) string {
	b, is := x.Read(name)
	return fmt.Sprintf("%v %x", is, b)
}

// cellByHand is a cell as bytes: its key, how many, and of each measure three numbers.
func cellByHand(key string, count int, numbers ...int) string {
	b := binary.BigEndian.AppendUint16([]byte(key), uint16(count))
	for _, n := range numbers {
		b = binary.BigEndian.AppendUint64(b, uint64(n))
	}
	return string(b)
}

// cuboidByHand is a file of cells.
func cuboidByHand(set byte, cells ...string) string {
	return string([]byte{set, 0, byte(len(cells))}) + strings.Join(cells, "")
}

func TestNameP1301(t *testing.T) {
	for set, want := range []string{"c0", "c1", "c2", "c3", "c4", "c5", "c6", "c7", "c8", "c9", "c10", "c11", "c12", "c13", "c14", "c15"} {
		if got := build.Name(set); got != want {
			t.Errorf("P1301: Name(%d): %q, not %q", set, got, want)
		}
	}
	for _, set := range []int{-1, -16, 16, 17, 100, math.MinInt, math.MaxInt} {
		if got := build.Name(set); got != "" {
			t.Errorf("P9: Name(%d): %q", set, got)
		}
	}
}

// small is a schema of two dimensions, and facts of it.
func small() (api.Schema, []api.Row) {
	return api.Schema{Cards: []int{4, 3}, Measures: 1}, []api.Row{row([]int{2, 1}, 5), row([]int{0, 2}, -3), row([]int{2, 1}, 7)}
}

// Errors in the order in which they are named: each is answered though all that are named behind it apply, too.
func TestErrorsP1301(t *testing.T) {
	s, rows := small()
	const most, least = math.MaxInt, math.MinInt
	good := string(rec.Encode(s, rows))
	over := string(rec.Encode(s, []api.Row{row([]int{0, 0}, most), row([]int{1, 0}, 1)}))
	under := string(rec.Encode(s, []api.Row{row([]int{0, 0}, least), row([]int{1, 0}, most), row([]int{1, 0}, -1)}))
	edge := string(rec.Encode(s, []api.Row{row([]int{0, 0}, least), row([]int{1, 0}, most)}))
	none := "no file"
	for _, x := range []struct {
		fact, plan        string
		budget, algorithm int
		want              api.Errno
	}{
		{none, "x", 2, 2, api.Missing}, {none, none, 3, 0, api.Missing},
		{"", "x", 2, 2, api.BadInput}, {"CUB1", "x", 2, 2, api.BadInput}, {good[1:], none, 3, 0, api.BadInput}, {good + "\x00", none, 3, 0, api.BadInput},
		{over, "x", 2, 2, api.Overflow}, {under, "x", 2, -1, api.Overflow}, {over, none, 3, 0, api.Overflow}, {under, "hash", 3, 1, api.Overflow},
		{good, "x", 2, 2, api.BadConfig}, {good, "x", 2, -1, api.BadConfig}, {good, none, 300, 2, api.BadConfig}, {good, "", 300, 2, api.BadConfig},
		{good, none, 3, most, api.BadConfig}, {good, "sort", 3, least, api.BadConfig}, {good, none, 3, 256, api.BadConfig}, {good, none, 3, 1 << 32, api.BadConfig},
		{good, "x", 2, 0, api.TooSmall}, {good, "x", 2, 1, api.TooSmall}, {good, "hash", 2, 0, api.TooSmall}, {good, none, 0, 0, api.TooSmall},
		{good, none, -1, 1, api.TooSmall}, {good, "sort", least, 0, api.TooSmall}, {edge, none, 2, 1, api.TooSmall},
		{good, "x", 3, 0, api.BadConfig}, {good, "x", 3, 1, api.BadConfig}, {good, "", 3, 0, api.BadConfig}, {good, "", 3, 1, api.BadConfig},
		{good, "hash", 3, 0, api.BadConfig}, {good, "sort", 3, 1, api.BadConfig}, {good, "sor", 3, 0, api.BadConfig}, {good, "sort ", 3, 0, api.BadConfig},
		{good, "Sort", 3, 0, api.BadConfig}, {good, "has", 3, 1, api.BadConfig}, {good, "hash\x00", 3, 1, api.BadConfig}, {good, "sorthash", 3, 1, api.BadConfig},
		{good, none, 3, 0, api.OK}, {good, none, 3, 1, api.OK}, {good, "sort", 3, 0, api.OK}, {good, "hash", 3, 1, api.OK},
		{good, none, most, 0, api.OK}, {good, "hash", most, 1, api.OK}, {edge, none, 3, 0, api.OK}, {edge, "hash", 3, 1, api.OK},
	} {
		y := store.New(roomOfAll)
		y.Write("t", []byte("left"))
		if x.fact != none {
			y.Write("fact", []byte(x.fact)) // that it is unsure does not count
		}
		if x.plan != none {
			y.Write("plan", []byte(x.plan))
		}
		deeds := told(y.Trace())
		c := build.Config{Budget: x.budget, Algorithm: x.algorithm}
		b, e := build.Open(y, c)
		if e != x.want || (b != nil) != (e == api.OK) {
			t.Errorf("P1301: %q, %q, %v: %v, %v, not %v", x.fact, x.plan, c, b, e, x.want)
		}
		for _, count := range []int{0, -1, math.MinInt} {
			mustRun(t, y, c, count, false, x.want)
		}
		if e != api.OK {
			mustRun(t, y, c, 9, false, x.want)
		}
		if told(y.Trace()) != deeds {
			t.Errorf("P1301: Open has done something: %v", y.Trace())
		}
	}
}

// Each Step's deed, and each file's bytes, by hand.
func TestStepsP1302(t *testing.T) {
	s, rows := small()
	for algorithm, word := range []string{"sort", "hash"} {
		x := filled(t, s, rows, roomOfAll)
		b := opened(t, x, 3, algorithm)
		mustTell(t, b, 0)
		want := x.Trace()
		var done []int
		for k, name := range []string{"plan", "c3", "c1", "c2", "c0"} {
			for _, op := range deedsOf(name) {
				steps(t, b, 1)
				want = append(want, op)
				if told(x.Trace()) != told(want) {
					t.Fatalf("P1302: %v, not %v", x.Trace(), want)
				}
				if op.Kind == store.Published && k > 0 {
					done = append(done, []int{3, 1, 2, 0}[k-1])
				}
				if told(b.Done()) != told(done) {
					t.Fatalf("P1301: Done: %v, not %v", b.Done(), done)
				}
			}
		}
		for range 3 {
			mustStep(t, b, true, api.OK)
		}
		mustHave(t, "T7", x, "c0 c1 c2 c3 fact plan")
		if told(x.Trace()) != told(want) {
			t.Errorf("P1302: done, and yet something is done: %v", x.Trace())
		}
		for name, bytes := range map[string]string{
			"fact": string(rec.Encode(s, rows)),
			"plan": word,
			"c3":   cuboidByHand(3, cellByHand("\x00\x02", 1, -3, -3, -3), cellByHand("\x02\x01", 2, 12, 5, 7)),
			"c1":   cuboidByHand(1, cellByHand("\x00", 1, -3, -3, -3), cellByHand("\x02", 2, 12, 5, 7)),
			"c2":   cuboidByHand(2, cellByHand("\x01", 2, 12, 5, 7), cellByHand("\x02", 1, -3, -3, -3)),
			"c0":   cuboidByHand(0, cellByHand("", 3, 9, -3, 7)),
		} {
			if got := read(x, name); got != fmt.Sprintf("true %x", bytes) {
				t.Errorf("P1302: %s: %s, not %x", name, got, bytes)
			}
		}
	}
}

// What is under way has its bytes from its first deed on, and is sure from its second one on.
func TestUnderWayP1302(t *testing.T) {
	s, rows := small()
	x := filled(t, s, rows, roomOfAll)
	b := opened(t, x, 3, api.ByHash)
	for _, name := range []string{"plan", "c3", "c1", "c2", "c0"} {
		steps(t, b, 1)
		bytes := read(x, "t")
		if _, is := x.Crash(nil).Read("t"); is {
			t.Errorf("P1302: %s is sure too early", name)
		}
		steps(t, b, 1)
		if read(x.Crash(nil), "t") != bytes || read(x, name) != "false " {
			t.Errorf("P1302: %s is not sure, or is there", name)
		}
		steps(t, b, 1)
		if read(x, name) != bytes || read(x.Crash(nil), name) != bytes || read(x, "t") != "false " {
			t.Errorf("P1302: %s is not what was under way", name)
		}
	}
}

// Without facts there are cuboids all the same, of no cells; one dimension, and four.
func TestEdgesP1302(t *testing.T) {
	for algorithm := range 2 {
		x := filled(t, api.Schema{Cards: []int{1}}, nil, roomOfAll)
		mustRun(t, x, build.Config{Budget: 3, Algorithm: algorithm}, 9, false, api.OK)
		mustHave(t, "T7", x, "c0 c1 fact plan")
		mustRun(t, x, build.Config{Budget: 3, Algorithm: algorithm}, 1, true, api.OK)
		if read(x, "c1") != "true 010000" || read(x, "c0") != "true 000000" {
			t.Errorf("P1302: %s, %s", read(x, "c1"), read(x, "c0"))
		}
		b := opened(t, x, 3, algorithm)
		mustStep(t, b, true, api.OK)
		mustTell(t, b, 0, 1, 0)

		four := api.Schema{Cards: []int{16, 16, 16, 16}, Measures: 2}
		x = filled(t, four, slices.Repeat([]api.Row{row([]int{15, 0, 15, 0}, -1, 1)}, 300), roomOfAll)
		b = opened(t, x, 3, algorithm)
		steps(t, b, 51)
		mustStep(t, b, true, api.OK)
		mustTell(t, b, 1, 15, 7, 11, 13, 14, 3, 5, 6, 9, 10, 12, 1, 2, 4, 8, 0)
		if got, want := read(x, "c15"), cuboidByHand(15, cellByHand("\x0f\x00\x0f\x00", 300, -300, -1, -1, 300, 1, 1)); got != fmt.Sprintf("true %x", want) {
			t.Errorf("P1302: %s, not %x", got, want)
		}
	}
}

// five are facts of two dimensions: five values of the first one, two of the other.
func five(t *testing.T) *store.Store {
	t.Helper()
	var rows []api.Row
	for v := range 5 {
		rows = append(rows, row([]int{v, v % 2}), row([]int{v, v % 2}))
	}
	return filled(t, api.Schema{Cards: []int{5, 2}}, rows, roomOfAll)
}

// High rises with a cuboid's Write, to what exec tells of it.
func TestHighP1301(t *testing.T) {
	for _, x := range []struct {
		budget, algorithm int
		high              []int // of 3, 1, 2, 0
	}{
		{3, api.BySort, []int{3, 3, 3, 3}}, {4, api.BySort, []int{4, 4, 4, 4}}, {5, api.BySort, []int{5, 5, 5, 5}}, {math.MaxInt, api.BySort, []int{5, 5, 5, 5}},
		{3, api.ByHash, []int{1, 1, 2, 2}}, {4, api.ByHash, []int{1, 1, 2, 2}}, {5, api.ByHash, []int{5, 5, 5, 5}}, {math.MaxInt, api.ByHash, []int{5, 5, 5, 5}},
	} {
		y := five(t)
		b := opened(t, y, x.budget, x.algorithm)
		mustTell(t, b, 0)
		steps(t, b, 3)
		mustTell(t, b, 0)
		for k, high := range x.high {
			for deed := 1; deed <= 3; deed++ {
				steps(t, b, 1)
				mustTell(t, b, high, []int{3, 1, 2, 0}[:k+deed/3]...)
			}
		}
		mustStep(t, b, true, api.OK)
		mustTell(t, b, x.high[3], 3, 1, 2, 0)
	}
}

// Of what others have made it tells nothing.
func TestHighIsItsOwnP1301(t *testing.T) {
	x := five(t)
	mustRun(t, x, build.Config{Budget: 5, Algorithm: api.ByHash}, 9, false, api.OK)
	b := opened(t, x, 5, api.ByHash)
	mustTell(t, b, 0, 3, 1)
	steps(t, b, 1)
	mustTell(t, b, 2, 3, 1)
	c := opened(t, x, 5, api.ByHash)
	mustTell(t, c, 0, 3, 1)
	steps(t, c, 4) // what the other one left, and the set 2
	mustTell(t, c, 2, 3, 1, 2)
	steps(t, c, 3)
	mustTell(t, c, 2, 3, 1, 2, 0)
	mustTell(t, opened(t, x, 5, api.ByHash), 0, 3, 1, 2, 0)
}

// What it has not written itself is removed ahead of all else, even where all is done.
func TestLeftoversP1302(t *testing.T) {
	s, rows := small()
	removed := store.Op{Kind: store.Removed, Name: "t"}
	for count := range 17 {
		for _, sure := range []bool{false, true} {
			x := filled(t, s, rows, roomOfAll)
			mustRun(t, x, build.Config{Budget: 3}, count, count > 15, api.OK)
			if _, is := x.Read("t"); !is {
				put(t, x, "t", "somebody's")
			}
			if !sure {
				x.Write("t", []byte("no more"))
			}
			had := len(x.Trace())
			b := opened(t, x, 3, api.BySort)
			done := b.Done()
			steps(t, b, 1)
			if deeds := x.Trace()[had:]; len(deeds) != 1 || deeds[0] != removed {
				t.Fatalf("P1302: after %d: %v", count, deeds)
			}
			mustTell(t, b, 0, done...)
			for range 15 - count/3*3 {
				mustStep(t, b, false, api.OK)
			}
			mustStep(t, b, true, api.OK)
			mustHave(t, "T7", x, "c0 c1 c2 c3 fact plan")
		}
	}
}

// What is there counts, whoever made it: a plan, or cuboids, of which the first one that is not there is made next.
func TestGoesOnP1302(t *testing.T) {
	s, rows := small()
	whole := filled(t, s, rows, roomOfAll)
	mustRun(t, whole, build.Config{Budget: 9}, 16, true, api.OK)
	files := []string{"plan", "c3", "c1", "c2", "c0"}
	sets := []int{3, 1, 2, 0}
	for mask := range 32 {
		if mask>>1%2 == 0 && mask > 3 {
			continue // of the set 3 the others are made
		}
		x := filled(t, s, rows, roomOfAll)
		var done []int
		var want []store.Op
		for i, name := range files {
			if mask>>i%2 == 0 {
				want = append(want, deedsOf(name)...)
				continue
			}
			b, _ := whole.Read(name)
			put(t, x, name, string(b))
			if i > 0 {
				done = append(done, sets[i-1])
			}
		}
		had := len(x.Trace())
		b := opened(t, x, 4, api.BySort)
		mustTell(t, b, 0, done...)
		steps(t, b, len(want))
		mustStep(t, b, true, api.OK)
		if got := x.Trace()[had:]; told(got) != told(want) {
			t.Errorf("P1302: %v, not %v", got, want)
		}
		mustBeLike(t, "P1302", x, whole)
	}
}

// mustBeLike holds two stores against each other, file by file.
func mustBeLike(t *testing.T, promise string, x, want *store.Store) {
	t.Helper()
	mustHave(t, promise, x, strings.Join(want.Names(), " "))
	for _, name := range want.Names() {
		if got := read(x, name); got != read(want, name) {
			t.Fatalf("%s: %s: %s, not %s", promise, name, got, read(want, name))
		}
	}
}

// A cuboid is made of its Parent's file, no other one: here each file is another's, so that they can be told apart.
func TestOfParentsFileP1302(t *testing.T) {
	c3 := cuboidByHand(3, cellByHand("\x01\x01", 2), cellByHand("\x01\x02", 3), cellByHand("\x03\x01", 4))
	c1, c2 := cuboidByHand(1, cellByHand("\x02", 10)), cuboidByHand(2, cellByHand("\x00", 20), cellByHand("\x02", 1))
	for _, x := range []struct {
		cards     []int
		algorithm int
		want      int // rows that c0 tells
	}{{[]int{4, 3}, api.BySort, 21}, {[]int{4, 3}, api.ByHash, 21}, {[]int{3, 4}, api.BySort, 10}, {[]int{3, 4}, api.ByHash, 10}, {[]int{4, 4}, api.ByHash, 10}} {
		s := api.Schema{Cards: x.cards}
		rows := slices.Repeat([]api.Row{row([]int{0, 0})}, 30)
		y := filled(t, s, rows, roomOfAll)
		put(t, y, "c1", c1)
		put(t, y, "c2", c2)
		b := opened(t, y, 3, x.algorithm)
		steps(t, b, 9) // the plan, and c3 and c0
		if got, want := read(y, "c0"), cuboidByHand(0, cellByHand("", x.want)); got != fmt.Sprintf("true %x", want) {
			t.Errorf("P1302: %v: %s, not %x", x, got, want)
		}
	}
	y := filled(t, api.Schema{Cards: []int{4, 3}}, []api.Row{row([]int{0, 0})}, roomOfAll)
	put(t, y, "c3", c3)
	b := opened(t, y, 3, api.BySort)
	steps(t, b, 12)
	for name, want := range map[string]string{
		"c1": cuboidByHand(1, cellByHand("\x01", 5), cellByHand("\x03", 4)),
		"c2": cuboidByHand(2, cellByHand("\x01", 6), cellByHand("\x02", 3)),
		"c0": cuboidByHand(0, cellByHand("", 9)),
	} {
		if got := read(y, name); got != fmt.Sprintf("true %x", want) {
			t.Errorf("P1302: %s: %s, not %x", name, got, want)
		}
	}
}

// The plan is the algorithm's, for as many facts as there are: each file tells how many rows it has of which Parent's.
func TestPlanP1301(t *testing.T) {
	for _, x := range []struct {
		cards           []int
		rows, algorithm int
		of1, of2, of4   int // the Parents
	}{
		// All cost alike: by sorting each Parent is scanned once, by hashing the least set is taken.
		{[]int{16, 16, 16}, 4, api.BySort, 3, 6, 5}, {[]int{16, 16, 16}, 4, api.ByHash, 3, 3, 5},
		// With facts enough the cards tell; with few they do not.
		{[]int{16, 16, 2}, 300, api.ByHash, 5, 6, 5}, {[]int{16, 16, 2}, 2, api.ByHash, 3, 3, 5},
		{[]int{2, 15, 16}, 300, api.ByHash, 3, 3, 5}, {[]int{2, 15, 16}, 2, api.BySort, 3, 6, 5},
		{[]int{2, 15, 16}, 300, api.BySort, 3, 3, 5}, {[]int{16, 16, 1}, 300, api.BySort, 5, 6, 5}, {[]int{16, 16, 1}, 1, api.BySort, 3, 6, 5},
	} {
		y := filled(t, api.Schema{Cards: x.cards}, slices.Repeat([]api.Row{row([]int{0, 0, 0})}, x.rows), roomOfAll)
		for _, set := range []byte{3, 5, 6} {
			put(t, y, build.Name(int(set)), cuboidByHand(set, cellByHand("\x00\x00", int(set))))
		}
		b := opened(t, y, 3, x.algorithm)
		steps(t, b, 18) // the plan, 7, 1, 2, 4, 0
		mustStep(t, b, true, api.OK)
		for set, parent := range map[byte]int{1: x.of1, 2: x.of2, 4: x.of4} {
			if got, want := read(y, build.Name(int(set))), cuboidByHand(set, cellByHand("\x00", parent)); got != fmt.Sprintf("true %x", want) {
				t.Errorf("P1301: %v: %d: %s, not %x", x, set, got, want)
			}
		}
	}
}

// What the store refuses is told as often as it is asked; where there is room again it goes on.
func TestFullP1302(t *testing.T) {
	s, rows := small()
	whole := filled(t, s, rows, roomOfAll)
	c := build.Config{Budget: 3, Algorithm: api.ByHash}
	mustRun(t, whole, c, 16, true, api.OK)
	fact := len(rec.Encode(s, rows))
	refused := map[string]int{}
	for limit := fact; limit <= whole.Used(); limit++ {
		x := filled(t, s, rows, limit)
		b := opened(t, x, 3, api.ByHash)
		done, e := false, api.OK
		for n := 0; n < 99 && !done && e == api.OK; n++ {
			done, e = b.Step()
		}
		if limit == whole.Used() {
			if !done || e != api.OK {
				t.Fatalf("P1302: just enough: %v, %v", done, e)
			}
			mustBeLike(t, "P1302", x, whole)
			break
		}
		had, sets, high, used := told(x.Trace()), b.Done(), b.High(), x.Used()
		for range 3 {
			mustStep(t, b, false, api.Full)
			mustTell(t, b, high, sets...)
		}
		mustRun(t, x, c, 99, false, api.Full)
		mustRun(t, x, c, 1, false, api.Full)
		mustRun(t, x, c, 0, false, api.OK)
		if done || e != api.Full || told(x.Trace()) != had || x.Used() != used {
			t.Fatalf("P1302: %d of %d: %v, %v, %v", limit, whole.Used(), done, e, x.Trace())
		}
		refused[strings.Join(x.Names(), " ")]++
		mustBeRight(t, x, s, rows)
	}
	for _, names := range []string{"fact", "fact plan", "c3 fact plan", "c1 c3 fact plan", "c1 c2 c3 fact plan"} {
		if refused[names] == 0 {
			t.Errorf("never refused: %s of %v", names, refused)
		}
	}
}

// High counts a cuboid that was made ahead of a Write that was refused; where room is made the same builder goes on.
func TestHighOfRefusedP1302(t *testing.T) {
	free := five(t)
	mustRun(t, free, build.Config{Budget: 4}, 16, true, api.OK)
	x := store.New(free.Used())
	b, _ := free.Read("fact")
	put(t, x, "fact", string(b))
	put(t, x, "more", strings.Repeat("x", free.Used()-x.Used()))
	builder := opened(t, x, 4, api.BySort)
	mustStep(t, builder, false, api.Full)
	mustTell(t, builder, 0)
	put(t, x, "more", strings.Repeat("x", free.Used()-len(b)-4))
	steps(t, builder, 3)
	mustTell(t, builder, 0)
	mustStep(t, builder, false, api.Full)
	mustTell(t, builder, 4)
	mustHave(t, "P1302", x, "fact more plan")
	x.Remove("more")
	steps(t, builder, 12)
	mustStep(t, builder, true, api.OK)
	mustBeLike(t, "P1302", x, free)
}

// What another one left takes room; it is removed first.
func TestFullOfLeftoversP1302(t *testing.T) {
	s, rows := small()
	whole := filled(t, s, rows, roomOfAll)
	mustRun(t, whole, build.Config{Budget: 3}, 16, true, api.OK)
	x := filled(t, s, rows, whole.Used())
	put(t, x, "t", strings.Repeat("x", whole.Used()-x.Used()))
	mustRun(t, x, build.Config{Budget: 3}, 17, true, api.OK)
	mustBeLike(t, "P1302", x, whole)
}

// Run takes so many Steps, no more, and stops where one is done.
func TestRunP1302(t *testing.T) {
	s, rows := small()
	c := build.Config{Budget: 3, Algorithm: api.ByHash}
	for count := range 20 {
		x := filled(t, s, rows, roomOfAll)
		mustRun(t, x, c, count, count > 15, api.OK)
		if got := len(x.Trace()) - 2; got != min(count, 15) {
			t.Errorf("P1302: %d Steps: %d deeds", count, got)
		}
	}
	x := filled(t, s, rows, roomOfAll)
	mustRun(t, x, c, math.MaxInt, true, api.OK)
	mustRun(t, x, c, 0, false, api.OK)
	mustRun(t, x, c, -5, false, api.OK)
	mustRun(t, x, c, 1, true, api.OK)
}

// grouped is the facts' group-by, by hand, as a file.
func grouped(s api.Schema, rows []api.Row, set int) string {
	at := map[string][]api.Row{}
	for _, r := range rows {
		key := ""
		for d, v := range r.Key {
			if set>>d%2 == 1 {
				key += string([]byte{byte(v)})
			}
		}
		at[key] = append(at[key], r)
	}
	var keys []string
	for key := range at {
		keys = append(keys, key)
	}
	slices.Sort(keys)
	out := string([]byte{byte(set), byte(len(keys) >> 8), byte(len(keys))})
	for _, key := range keys {
		var numbers []int
		for m := range s.Measures {
			sum, low, high := 0, math.MaxInt, math.MinInt
			for _, r := range at[key] {
				sum, low, high = sum+r.M[m], min(low, r.M[m]), max(high, r.M[m])
			}
			numbers = append(numbers, sum, low, high)
		}
		out += cellByHand(key, len(at[key]), numbers...)
	}
	return out
}

// mustBeRight holds each cuboid that is committed against the facts.
func mustBeRight(t *testing.T, x *store.Store, s api.Schema, rows []api.Row) (committed int) {
	t.Helper()
	for set := range 1 << len(s.Cards) {
		b, is := x.Read(build.Name(set))
		if !is {
			continue
		}
		committed++
		if want := grouped(s, rows, set); string(b) != want {
			t.Fatalf("T1: %d of %v: %x, not %x", set, rows, b, want)
		}
	}
	return committed
}

// thrown are a schema and so many facts of it at most, by dice.
func thrown(die *rand.Rand, most int) (api.Schema, []api.Row) {
	s := api.Schema{Measures: die.Intn(3)}
	for range 1 + die.Intn(4) {
		s.Cards = append(s.Cards, 1+die.Intn([]int{2, 5, 16}[die.Intn(3)]))
	}
	var rows []api.Row
	for range die.Intn(most + 1) {
		var r api.Row
		for _, card := range s.Cards {
			r.Key = append(r.Key, die.Intn(card))
		}
		for range s.Measures {
			r.M = append(r.M, int(die.Uint64())>>10)
		}
		rows = append(rows, r)
	}
	return s, rows
}
