package query_test

import (
	"fmt"
	"math"
	"math/rand"
	"slices"
	"testing"

	"hypercube/api"
	"hypercube/build"
	"hypercube/query"
	"hypercube/rec"
	"hypercube/store"
)

// roomOfAll is more bytes than any store here takes.
const roomOfAll = 1 << 20

// told writes what counts: no list and an empty one are the same.
func told(x any) string { return fmt.Sprint(x) }

func row(key []int, m ...int) api.Row { return api.Row{Key: key, M: m} }

// ask is a query of a set's cells.
func ask(set int, filters ...api.Filter) api.Query { return api.Query{Set: set, Filters: filters} }

// of is a filter of a dimension.
func of(dim, lo, hi int) api.Filter { return api.Filter{Dim: dim, Lo: lo, Hi: hi} }

// cellOf is a cell by hand: of each measure a sum, a least, a greatest.
func cellOf(key []int, count int, numbers ...int) api.Cell {
	c := api.Cell{Key: key, Count: count}
	for three := range slices.Chunk(numbers, 3) {
		c.Sum, c.Min, c.Max = append(c.Sum, three[0]), append(c.Min, three[1]), append(c.Max, three[2])
	}
	return c
}

// put gives a store a file that is sure.
func put(t *testing.T, x *store.Store, name string, b []byte) {
	t.Helper()
	if e := x.Write(name, b); e != api.OK {
		t.Fatalf("Write %s: %v", name, e)
	}
	x.Sync(name)
}

// filled is a store that has facts alone.
func filled(t *testing.T, s api.Schema, rows []api.Row) *store.Store {
	t.Helper()
	x := store.New(roomOfAll)
	put(t, x, "fact", rec.Encode(s, rows))
	return x
}

// built is a store that has all cuboids.
func built(t *testing.T, s api.Schema, rows []api.Row) *store.Store {
	t.Helper()
	x := filled(t, s, rows)
	if done, e := build.Run(x, build.Config{Budget: 9}, 999); !done || e != api.OK {
		t.Fatalf("Run: %v, %v", done, e)
	}
	return x
}

// only is a store that has facts, and of their cuboids those of some sets.
func only(t *testing.T, whole *store.Store, sets ...int) *store.Store {
	t.Helper()
	x := whole.Crash(nil)
	for set := range 1 << api.MaxDims {
		if !slices.Contains(sets, set) {
			x.Remove(build.Name(set))
		}
	}
	return x
}

// mustTell asks, and holds the answer against cells and the set that serves.
func mustTell(t *testing.T, promise string, x *store.Store, q api.Query, server int, want ...api.Cell) {
	t.Helper()
	if set, is := query.Server(x, q); set != server || !is {
		t.Errorf("P1401: Server of %v: %d, %v, not %d", q, set, is, server)
	}
	if got, e := query.Ask(x, q); e != api.OK || told(got) != told(want) {
		t.Errorf("%s: Ask of %v: %v, %v, not %v", promise, q, got, e, want)
	}
}

func mustRefuse(t *testing.T, promise string, x *store.Store, q api.Query, want api.Errno) {
	t.Helper()
	if set, is := query.Server(x, q); set != 0 || is {
		t.Errorf("P1401: Server of %v: %d, %v", q, set, is)
	}
	if got, e := query.Ask(x, q); e != want || len(got) != 0 {
		t.Errorf("%s: Ask of %v: %v, %v, not %v", promise, q, got, e, want)
	}
}

// small is a schema of two dimensions, and facts of it.
func small() (api.Schema, []api.Row) {
	return api.Schema{Cards: []int{4, 3}, Measures: 1}, []api.Row{
		row([]int{2, 1}, 5), row([]int{0, 2}, -3), row([]int{2, 1}, 7), row([]int{3, 0}, 10), row([]int{2, 2}, -20),
	}
}

// All cells of each set, by hand.
func TestAllP1402(t *testing.T) {
	s, rows := small()
	x := built(t, s, rows)
	mustTell(t, "P1402", x, ask(0), 0, cellOf(nil, 5, -1, -20, 10))
	mustTell(t, "P1402", x, ask(1), 1, cellOf([]int{0}, 1, -3, -3, -3), cellOf([]int{2}, 3, -8, -20, 7), cellOf([]int{3}, 1, 10, 10, 10))
	mustTell(t, "P1402", x, ask(2), 2, cellOf([]int{0}, 1, 10, 10, 10), cellOf([]int{1}, 2, 12, 5, 7), cellOf([]int{2}, 2, -23, -20, -3))
	mustTell(t, "P1402", x, ask(3), 3, cellOf([]int{0, 2}, 1, -3, -3, -3), cellOf([]int{2, 1}, 2, 12, 5, 7), cellOf([]int{2, 2}, 1, -20, -20, -20), cellOf([]int{3, 0}, 1, 10, 10, 10))
}

// Filters of dimensions that the set has, of others, of both; the bounds are within, too.
func TestFiltersP1402(t *testing.T) {
	s, rows := small()
	x := built(t, s, rows)
	zero, two, three := cellOf([]int{0}, 1, -3, -3, -3), cellOf([]int{2}, 3, -8, -20, 7), cellOf([]int{3}, 1, 10, 10, 10)
	mustTell(t, "P1402", x, ask(1, of(0, 0, 3)), 1, zero, two, three)
	mustTell(t, "P1402", x, ask(1, of(0, 0, 2)), 1, zero, two)
	mustTell(t, "P1402", x, ask(1, of(0, 1, 2)), 1, two)
	mustTell(t, "P1402", x, ask(1, of(0, 2, 2)), 1, two)
	mustTell(t, "P1402", x, ask(1, of(0, 2, 3)), 1, two, three)
	mustTell(t, "P1402", x, ask(1, of(0, 3, 3)), 1, three)
	mustTell(t, "P1402", x, ask(1, of(0, 0, 0)), 1, zero)
	mustTell(t, "P1402", x, ask(1, of(0, 1, 1)), 1)

	mustTell(t, "P1402", x, ask(0, of(0, 1, 3)), 1, cellOf(nil, 4, 2, -20, 10))
	mustTell(t, "P1402", x, ask(0, of(1, 1, 2)), 2, cellOf(nil, 4, -11, -20, 7))
	mustTell(t, "P1402", x, ask(0, of(1, 0, 0)), 2, cellOf(nil, 1, 10, 10, 10))
	mustTell(t, "P1402", x, ask(0, of(0, 1, 1)), 1)

	mustTell(t, "P1402", x, ask(1, of(1, 2, 2)), 3, zero, cellOf([]int{2}, 1, -20, -20, -20))
	mustTell(t, "P1402", x, ask(1, of(1, 1, 2)), 3, zero, two)
	mustTell(t, "P1402", x, ask(2, of(0, 2, 2)), 3, cellOf([]int{1}, 2, 12, 5, 7), cellOf([]int{2}, 1, -20, -20, -20))
	mustTell(t, "P1402", x, ask(0, of(0, 2, 2), of(1, 0, 1)), 3, cellOf(nil, 2, 12, 5, 7))
	mustTell(t, "P1402", x, ask(0, of(1, 0, 1), of(0, 2, 2)), 3, cellOf(nil, 2, 12, 5, 7))
	mustTell(t, "P1402", x, ask(3, of(1, 0, 1), of(0, 2, 3)), 3, cellOf([]int{2, 1}, 2, 12, 5, 7), cellOf([]int{3, 0}, 1, 10, 10, 10))
	mustTell(t, "P1402", x, ask(3, of(0, 0, 1), of(1, 0, 1)), 3)
}

// Without facts there is nothing to tell, but it is told; one dimension, and four; no measures, and two.
func TestEdgesP1402(t *testing.T) {
	x := built(t, api.Schema{Cards: []int{1}}, nil)
	mustTell(t, "P1402", x, ask(0), 0)
	mustTell(t, "P1402", x, ask(1), 1)
	mustTell(t, "P1402", x, ask(0, of(0, 0, 0)), 1)
	mustRefuse(t, "P1402", x, ask(0, of(0, 0, 1)), api.BadQuery)
	mustRefuse(t, "P1402", x, ask(2), api.BadQuery)

	key := []int{15, 0, 14, 1}
	x = built(t, api.Schema{Cards: []int{16, 16, 16, 16}, Measures: 2}, slices.Repeat([]api.Row{row(key, -1, 1)}, 300))
	all := []api.Filter{of(3, 1, 15), of(0, 15, 15), of(2, 0, 14), of(1, 0, 0)}
	mustTell(t, "P1402", x, ask(15), 15, cellOf(key, 300, -300, -1, -1, 300, 1, 1))
	mustTell(t, "P1402", x, ask(15, all...), 15, cellOf(key, 300, -300, -1, -1, 300, 1, 1))
	mustTell(t, "P1402", x, ask(5, all...), 15, cellOf([]int{15, 14}, 300, -300, -1, -1, 300, 1, 1))
	mustTell(t, "P1402", x, ask(10, all[:2]...), 11, cellOf([]int{0, 1}, 300, -300, -1, -1, 300, 1, 1))
	mustTell(t, "P1402", x, ask(0, all...), 15, cellOf(nil, 300, -300, -1, -1, 300, 1, 1))
	mustTell(t, "P1402", x, ask(0, of(2, 15, 15)), 4)
	mustTell(t, "P1402", x, ask(4, of(3, 0, 0)), 12)
	mustRefuse(t, "P1402", x, ask(16), api.BadQuery)
	mustRefuse(t, "P1402", x, ask(0, of(4, 0, 0)), api.BadQuery)
	mustRefuse(t, "P1402", x, ask(0, of(3, 0, 16)), api.BadQuery)
}

// What may not be asked; each is refused alike whether there are cuboids or not.
func TestBadQueryP1402(t *testing.T) {
	const most, least = math.MaxInt, math.MinInt
	s, rows := small()
	whole := built(t, s, rows)
	bad := []api.Query{
		ask(-1), ask(4), ask(5), ask(7), ask(16), ask(1 << 32), ask(most), ask(least), ask(-4, of(0, 0, 3)),
		ask(0, of(2, 0, 0)), ask(0, of(-1, 0, 0)), ask(3, of(3, 0, 0)), ask(3, of(64, 0, 0)), ask(3, of(most, 0, 0)), ask(3, of(least, 0, 0)), ask(3, of(1<<32, 0, 0)),
		ask(1, of(0, -1, 3)), ask(1, of(0, -1, -1)), ask(1, of(0, least, most)), ask(1, of(0, least, 0)), ask(1, of(0, least, least)),
		ask(1, of(0, 2, 1)), ask(1, of(0, 1, 0)), ask(1, of(0, 3, 0)), ask(1, of(0, 0, -1)), ask(1, of(0, most, 0)), ask(1, of(0, most, least)), ask(1, of(0, 5, 4)),
		ask(1, of(0, 0, 4)), ask(1, of(0, 4, 4)), ask(2, of(1, 0, 3)), ask(2, of(1, 3, 3)), ask(2, of(1, 0, most)), ask(2, of(1, most, most)), ask(2, of(1, 0, 16)),
		ask(3, of(0, 0, 3), of(0, 0, 3)), ask(3, of(1, 1, 1), of(1, 2, 2)), ask(3, of(0, 0, 3), of(1, 0, 2), of(0, 1, 1)), ask(0, of(1, 0, 0), of(0, 0, 0), of(1, 0, 0)),
		ask(3, of(0, 0, 3), of(1, 0, 2), of(2, 0, 0)), ask(3, of(0, 0, 3), of(1, 0, 3)), ask(3, of(0, 0, 3), of(1, -1, 2)), ask(3, of(0, 0, 3), of(1, 2, 1)),
	}
	for _, x := range []*store.Store{whole, only(t, whole), only(t, whole, 0), only(t, whole, 3)} {
		for _, q := range bad {
			mustRefuse(t, "P1402", x, q, api.BadQuery)
		}
	}
}

// Errors in the order in which they are named: no facts, then what may not be asked, then no such set.
func TestNotThereP1402(t *testing.T) {
	s, rows := small()
	fact := rec.Encode(s, rows)
	whole := built(t, s, rows)
	x := store.New(0)
	mustRefuse(t, "example 1", x, ask(0), api.NotThere)
	mustRefuse(t, "P1402", x, ask(-1, of(-1, -1, -2)), api.NotThere)
	for _, b := range [][]byte{{}, []byte("CUB1"), fact[1:], fact[:len(fact)-1], append(slices.Clone(fact), 0), []byte("sort")} {
		for _, y := range []*store.Store{only(t, whole), only(t, whole, 0, 1, 2, 3)} {
			put(t, y, "fact", b)
			for _, q := range []api.Query{ask(0), ask(3), ask(1, of(0, 0, 3)), ask(-1), ask(3, of(0, 0, 4))} {
				mustRefuse(t, "P1402", y, q, api.NotThere)
			}
			y.Remove("fact")
			mustRefuse(t, "P1402", y, ask(0), api.NotThere)
			mustRefuse(t, "P1402", y, ask(4), api.NotThere)
		}
	}
	for _, y := range []struct {
		sets []int
		q    api.Query
	}{
		{nil, ask(0)}, {nil, ask(3, of(0, 0, 3), of(1, 0, 2))}, {[]int{0}, ask(1)}, {[]int{0, 1}, ask(2)}, {[]int{0, 2}, ask(1)}, {[]int{0, 1, 2}, ask(3)},
		// A filter's dimension counts, even where it lets all by.
		{[]int{0}, ask(0, of(0, 0, 3))}, {[]int{0, 1}, ask(1, of(1, 0, 2))}, {[]int{0, 1, 2}, ask(1, of(1, 0, 2))}, {[]int{0, 1, 2}, ask(0, of(1, 0, 2), of(0, 0, 3))},
	} {
		mustRefuse(t, "P1402", only(t, whole, y.sets...), y.q, api.NotThere)
	}
}

// What is under way is not committed; the facts need not be sure.
func TestCommittedP1401(t *testing.T) {
	s, rows := small()
	x := store.New(roomOfAll)
	x.Write("fact", rec.Encode(s, rows))
	b, e := build.Open(x, build.Config{Budget: 3})
	if e != api.OK {
		t.Fatal(e)
	}
	for steps := range 16 {
		three, one, two, zero := steps >= 6, steps >= 9, steps >= 12, steps >= 15
		for set, server := range []int{0, 1, 2, 3} {
			is := []bool{three || zero, three || one, three || two, three}[set]
			if is && ![]bool{zero, one, two, three}[set] {
				server = 3
				if set == 0 && one {
					server = 1 // 1 and 2 have as many cells
				}
			}
			if got, ok := query.Server(x, ask(set)); ok != is || is && got != server {
				t.Errorf("P1401: behind %d steps Server of %d: %d, %v, not %d, %v", steps, set, got, ok, server, is)
			}
		}
		b.Step()
	}
}

// The fewest cells, not the fewest dimensions, nor the least set.
func TestServerP1401(t *testing.T) {
	s := api.Schema{Cards: []int{8, 4, 2}}
	var rows []api.Row
	for v := range 8 {
		rows = append(rows, row([]int{v, v % 3, 0}))
	}
	// Of 1, 3, 5, 7 there are 8 cells; of 2 and 6 there are 3; of 4 and 0 there is 1.
	whole := built(t, s, rows)
	for _, x := range []struct {
		sets   []int
		q      api.Query
		server int
	}{
		{[]int{7}, ask(0), 7}, {[]int{7, 6}, ask(0), 6}, {[]int{7, 6, 5}, ask(0), 6}, {[]int{1, 6}, ask(0), 6}, {[]int{1, 2}, ask(0), 2}, {[]int{2, 4}, ask(0), 4},
		{[]int{0, 4}, ask(0), 0}, {[]int{4, 6, 7}, ask(0), 4}, {[]int{1, 2, 3, 5, 6, 7}, ask(0), 2}, {[]int{3, 5, 7}, ask(0), 3}, {[]int{5, 7}, ask(0), 5},
		{[]int{3, 5, 6, 7}, ask(0), 6}, {[]int{1, 6}, ask(0, of(0, 0, 7)), 1}, {[]int{6, 7}, ask(2), 6}, {[]int{6, 3}, ask(2), 6}, {[]int{3, 7}, ask(2), 3},
		{[]int{0, 1, 3, 4, 5, 7}, ask(2), 3}, {[]int{0, 1, 3, 5, 6, 7}, ask(4), 6}, {[]int{0, 1, 2, 3, 5, 7}, ask(4), 5}, {[]int{0, 1, 2, 3, 4, 6, 7}, ask(4, of(0, 7, 7)), 7},
		{[]int{0, 1, 2, 3, 4, 6, 7}, ask(1, of(2, 0, 0)), 7}, {[]int{0, 1, 2, 3, 4, 5, 6, 7}, ask(1, of(2, 0, 0)), 5}, {[]int{5, 6, 7}, ask(0, of(1, 0, 0), of(2, 0, 0)), 6},
		{[]int{0, 1, 2, 3, 4, 5, 6, 7}, ask(0, of(2, 0, 1), of(1, 0, 3), of(0, 0, 7)), 7},
	} {
		if set, is := query.Server(only(t, whole, x.sets...), x.q); set != x.server || !is {
			t.Errorf("P1401: of %v Server of %v: %d, %v, not %d", x.sets, x.q, set, is, x.server)
		}
	}
}

// thrown are a schema and so many facts of it at most, by dice.
func thrown(die *rand.Rand, most int) (api.Schema, []api.Row) {
	s := api.Schema{Measures: die.Intn(3)}
	for range 1 + die.Intn(4) {
		s.Cards = append(s.Cards, 1+die.Intn([]int{2, 5, 16}[die.Intn(3)]))
	}
	var rows []api.Row
	for range die.Intn(most + 1) {
		var r api.Row
		for _, card := range s.Cards {
			r.Key = append(r.Key, die.Intn(card))
		}
		for range s.Measures {
			r.M = append(r.M, int(die.Uint64())>>10)
		}
		rows = append(rows, r)
	}
	return s, rows
}

// asked is a query that may be asked, by dice; its filters stand in any order.
func asked(die *rand.Rand, s api.Schema) api.Query {
	q := ask(die.Intn(1 << len(s.Cards)))
	for _, d := range die.Perm(len(s.Cards)) {
		if die.Intn(2) == 0 {
			lo := die.Intn(s.Cards[d])
			q.Filters = append(q.Filters, of(d, lo, lo+die.Intn(s.Cards[d]-lo)))
		}
	}
	return q
}

// passes tells whether all filters let a fact by.
func passes(r api.Row, filters []api.Filter) bool {
	for _, f := range filters {
		if r.Key[f.Dim] < f.Lo || r.Key[f.Dim] > f.Hi {
			return false
		}
	}
	return true
}

// byHand is what the facts themselves tell.
func byHand(rows []api.Row, q api.Query) []api.Cell {
	at := map[string]*api.Cell{}
	for _, r := range rows {
		if !passes(r, q.Filters) {
			continue
		}
		var key []int
		for d, v := range r.Key {
			if q.Set>>d%2 == 1 {
				key = append(key, v)
			}
		}
		c := at[told(key)]
		if c == nil {
			c = &api.Cell{Key: key, Sum: make([]int, len(r.M)), Min: slices.Clone(r.M), Max: slices.Clone(r.M)}
			at[told(key)] = c
		}
		c.Count++
		for m, n := range r.M {
			c.Sum[m], c.Min[m], c.Max[m] = c.Sum[m]+n, min(c.Min[m], n), max(c.Max[m], n)
		}
	}
	var out []api.Cell
	for _, c := range at {
		out = append(out, *c)
	}
	slices.SortFunc(out, func(a, b api.Cell) int { return slices.Compare(a.Key, b.Key) })
	return out
}

// serverByHand counts by the facts how many cells each set has; false, if no set will do.
func serverByHand(rows []api.Row, sets []int, q api.Query) (int, bool) {
	best, few := -1, 0
	for _, set := range slices.Sorted(slices.Values(sets)) {
		need := q.Set
		for _, f := range q.Filters {
			need |= 1 << f.Dim
		}
		if need&set != need {
			continue
		}
		if n := len(byHand(rows, ask(set))); best < 0 || n < few {
			best, few = set, n
		}
	}
	return max(best, 0), best >= 0
}

// Whatever is committed: the group-by of the facts that are let by, or no answer.
func TestByDiceP1403(t *testing.T) {
	die := rand.New(rand.NewSource(14))
	seen := map[api.Errno]int{}
	for range 300 {
		s, rows := thrown(die, []int{3, 30, 300}[die.Intn(3)])
		whole := built(t, s, rows)
		for range 8 {
			var sets []int
			for set := range 1 << len(s.Cards) {
				if die.Intn(2) == 0 {
					sets = append(sets, set)
				}
			}
			x, q := only(t, whole, sets...), asked(die, s)
			if server, is := serverByHand(rows, sets, q); is {
				mustTell(t, "P1403", x, q, server, byHand(rows, q)...)
				seen[api.OK]++
			} else {
				mustRefuse(t, "P1403", x, q, api.NotThere)
				seen[api.NotThere]++
			}
		}
	}
	if seen[api.OK] < 300 || seen[api.NotThere] < 300 {
		t.Errorf("the die falls to one side: %v", seen)
	}
}

// A query is answered alike by each cuboid that may serve it.
func TestAnyCuboidP1403(t *testing.T) {
	die := rand.New(rand.NewSource(6))
	for range 60 {
		s, rows := thrown(die, 60)
		whole := built(t, s, rows)
		for range 4 {
			q := asked(die, s)
			want := byHand(rows, q)
			for set := range 1 << len(s.Cards) {
				if server, is := serverByHand(rows, []int{set}, q); is {
					mustTell(t, "T6", only(t, whole, set), q, server, want...)
				}
			}
		}
	}
}

// Builds that were cut off anywhere, by either algorithm, with what a crash left.
func TestCutOffP1403(t *testing.T) {
	die := rand.New(rand.NewSource(3))
	for range 100 {
		s, rows := thrown(die, 30)
		x, algorithm := filled(t, s, rows), die.Intn(2)
		for range 6 {
			c := build.Config{Budget: 3 + die.Intn(9), Algorithm: algorithm}
			if _, e := build.Run(x, c, die.Intn(12)); e != api.OK {
				t.Fatal(e)
			}
			x = x.Crash([]int{die.Intn(4)})
			var sets []int
			for set := range 1 << len(s.Cards) {
				if _, is := x.Read(build.Name(set)); is {
					sets = append(sets, set)
				}
			}
			q := asked(die, s)
			if server, is := serverByHand(rows, sets, q); is {
				mustTell(t, "P1403", x, q, server, byHand(rows, q)...)
			} else {
				mustRefuse(t, "P1403", x, q, api.NotThere)
			}
		}
	}
}
