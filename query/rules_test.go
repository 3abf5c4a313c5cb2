package query_test

import (
	"math"
	"math/rand"
	"reflect"
	"slices"
	"strconv"
	"sync"
	"testing"

	"hypercube/api"
	"hypercube/build"
	"hypercube/query"
	"hypercube/rec"
	"hypercube/store"
)

// listsOf are all lists of cells, the cells' own aside.
func listsOf(cells []api.Cell) [][]int {
	var lists [][]int
	for _, c := range cells {
		lists = append(lists, c.Key, c.Sum, c.Min, c.Max)
	}
	return lists
}

// Each list that Ask answers is filled, its spare room too; none may be another's.
func TestListsAreNewP2(t *testing.T) {
	s, rows := small()
	x := built(t, s, rows)
	queries := []api.Query{ask(3), ask(3), ask(0), ask(1, of(1, 1, 2)), ask(2, of(0, 0, 3)), ask(3, of(0, 2, 2))}
	want := told(answers(x, queries))
	var lists [][]int
	for _, q := range queries {
		cells, _ := query.Ask(x, q)
		lists = append(lists, listsOf(cells)...)
		spare := cells[len(cells):cap(cells)]
		for i := range spare {
			spare[i] = api.Cell{Count: 77}
		}
	}
	for i, l := range lists {
		l = l[:cap(l)]
		for j := range l {
			l[j] = i
		}
	}
	for i, l := range lists {
		for _, v := range l[:cap(l)] {
			if v != i {
				t.Fatalf("P2: lists %d and %d share memory", i, v)
			}
		}
	}
	if got := told(answers(x, queries)); got != want {
		t.Errorf("P2: %s, then %s", want, got)
	}
}

// Filters that are handed in stay, and the room behind them.
func TestNothingHandedInChangesP2(t *testing.T) {
	s, rows := small()
	x := built(t, s, rows)
	room := []api.Filter{of(1, 0, 1), of(0, 2, 3), of(9, 9, 9), of(8, 8, 8)}
	had := slices.Clone(room)
	for many := range len(room) + 1 {
		q := ask(3, room[:many]...)
		query.Server(x, q)
		query.Ask(x, q)
		if !slices.Equal(room, had) {
			t.Fatalf("P2: %v, not %v", room, had)
		}
	}
}

// What is done to filters after a call is nothing to its answer.
func TestNothingIsKeptP2(t *testing.T) {
	s, rows := small()
	x := built(t, s, rows)
	filters := []api.Filter{of(1, 0, 1)}
	cells, _ := query.Ask(x, ask(1, filters...))
	had := told(cells)
	filters[0] = of(1, 2, 2)
	if told(cells) != had {
		t.Errorf("P2: %v, not %s", cells, had)
	}
	mustTell(t, "P2", x, ask(1, filters...), 3, cellOf([]int{0}, 1, -3, -3, -3), cellOf([]int{2}, 1, -20, -20, -20))
}

func TestNoListIsEmptyP2(t *testing.T) {
	s, rows := small()
	x := built(t, s, rows)
	one, e := query.Ask(x, api.Query{Set: 1})
	two, f := query.Ask(x, api.Query{Set: 1, Filters: []api.Filter{}})
	if told(one) != told(two) || e != api.OK || f != api.OK || len(one) != 3 {
		t.Errorf("P2: %v, %v, %v, %v", one, e, two, f)
	}
}

// A store tells the same behind any query as ahead of it.
func TestStoreIsNotTouchedP5(t *testing.T) {
	s, rows := small()
	whole := built(t, s, rows)
	for _, x := range []*store.Store{whole, only(t, whole, 3), store.New(0)} {
		tells := func() string {
			text := told(x.Trace()) + told(x.Names()) + strconv.Itoa(x.Used())
			for _, name := range x.Names() {
				b, _ := x.Read(name)
				text += told(b)
			}
			return text
		}
		had := tells()
		for _, q := range []api.Query{ask(0), ask(3), ask(4), ask(1, of(1, 0, 0)), ask(0, of(0, 0, 9))} {
			query.Server(x, q)
			query.Ask(x, q)
			if tells() != had {
				t.Fatalf("P5: %v has done something", q)
			}
		}
	}
}

// answers are what queries are told, and by whom.
func answers(x *store.Store, queries []api.Query) []any {
	var out []any
	for _, q := range queries {
		set, is := query.Server(x, q)
		cells, e := query.Ask(x, q)
		out = append(out, set, is, cells, e)
	}
	return out
}

func TestSameAgainP3(t *testing.T) {
	die := rand.New(rand.NewSource(33))
	s, rows := thrown(die, 60)
	x := only(t, built(t, s, rows), 15, 11, 7, 5, 3, 2, 1)
	var queries []api.Query
	for range 40 {
		queries = append(queries, asked(die, s))
	}
	first := answers(x, queries)
	for range 10 { // a map is gone through in another order each time
		if again := answers(x, queries); !reflect.DeepEqual(first, again) {
			t.Fatalf("P3: %v, then %v", first, again)
		}
	}
	backwards := slices.Clone(queries)
	slices.Reverse(backwards)
	answers(x, backwards) // what was asked before is nothing to what is asked
	if again := answers(x, queries); !reflect.DeepEqual(first, again) {
		t.Fatalf("P3: %v, then %v", first, again)
	}
}

// What is committed, or put in the facts' place, between two calls counts at once.
func TestNothingIsKeptBetweenCallsP3(t *testing.T) {
	s, rows := small()
	x := filled(t, s, rows)
	mustRefuse(t, "P3", x, ask(0), api.NotThere)
	c := build.Config{Budget: 3}
	build.Run(x, c, 6)
	total := cellOf(nil, 5, -1, -20, 10)
	mustTell(t, "P3", x, ask(0), 3, total)
	build.Run(x, c, 99)
	mustTell(t, "P3", x, ask(0), 0, total)
	x.Remove("c0")
	mustTell(t, "P3", x, ask(0), 1, total)
	x.Remove("fact")
	mustRefuse(t, "P3", x, ask(0), api.NotThere)
	put(t, x, "fact", rec.Encode(api.Schema{Cards: []int{4}, Measures: 1}, nil))
	mustRefuse(t, "P3", x, ask(2), api.BadQuery)
}

// Stores of their own, each asked on the side of the others.
func TestSideBySideP7(t *testing.T) {
	die := rand.New(rand.NewSource(77))
	var all sync.WaitGroup
	for range 8 {
		s, rows := thrown(die, 60)
		x := built(t, s, rows)
		var queries []api.Query
		for range 20 {
			queries = append(queries, asked(die, s))
		}
		all.Go(func() {
			for _, q := range queries {
				if got, e := query.Ask(x, q); e != api.OK || told(got) != told(byHand(rows, q)) {
					t.Errorf("P7: Ask of %v: %v, %v", q, got, e)
				}
			}
		})
	}
	all.Wait()
}

// Where others put what is no cuboid of the set in its file's place, nothing is told by it.
func TestOtherFilesP8(t *testing.T) {
	s, rows := small()
	whole := built(t, s, rows)
	total := cellOf(nil, 5, -1, -20, 10)
	one, _ := whole.Read("c1")
	two, _ := whole.Read("c2")
	for _, bad := range [][]byte{{}, []byte("sort"), one[1:], two, append(slices.Clone(one), 0), append([]byte{9}, one[1:]...)} {
		x := only(t, whole, 3)
		put(t, x, "c1", bad)
		mustTell(t, "P8", x, ask(0), 3, total)
		y := only(t, whole)
		put(t, y, "c1", bad)
		mustRefuse(t, "P8", y, ask(1), api.NotThere)
	}
	x := only(t, whole, 0)
	for _, name := range []string{"c4", "c00", "c", "t", "plan"} { // no files of a set of the facts' dimensions
		put(t, x, name, one)
	}
	mustRefuse(t, "P8", x, ask(1), api.NotThere)
	mustTell(t, "P8", x, ask(0), 0, total)
}

// A store that New has not answered has no facts.
func TestNoStoreP8(t *testing.T) {
	var x store.Store
	mustRefuse(t, "P8", &x, ask(0), api.NotThere)
	mustRefuse(t, "P8", &x, ask(-1), api.NotThere)
}

// spoilt is bytes that were changed here and there, or any.
func spoilt(die *rand.Rand, b []byte) []byte {
	b = slices.Clone(b)
	switch die.Intn(5) {
	case 0:
		b = b[:die.Intn(1+len(b))]
	case 1:
		b = append(b, byte(die.Intn(256)))
	case 2:
		if len(b) > 0 {
			b[die.Intn(len(b))] = byte(die.Intn(20))
		}
	case 3:
		b = make([]byte, die.Intn(30))
		die.Read(b)
	}
	return b
}

// Whatever files there are, and whatever is asked, each call ends, does not panic, and tells nothing beside an error.
func TestAnyPlainDataP1(t *testing.T) {
	die := rand.New(rand.NewSource(1))
	numbers := []int{0, 1, 2, 3, 4, -1, 7, 15, 16, 63, 64, 1 << 32, math.MaxInt, math.MinInt}
	number := func() int { return numbers[die.Intn(1+die.Intn(len(numbers)))] }
	seen := map[api.Errno]int{}
	for range 1500 {
		s, rows := thrown(die, 12)
		x := built(t, s, rows)
		for _, name := range x.Names() {
			if die.Intn(6) == 0 {
				b, _ := x.Read(name)
				x.Write(name, spoilt(die, b))
			}
			if die.Intn(6) == 0 {
				x.Remove(name)
			}
		}
		for range 10 {
			q := asked(die, s)
			if die.Intn(2) == 0 {
				q.Set = number()
			}
			for range die.Intn(3) {
				q.Filters = append(q.Filters, of(number(), number(), number()))
			}
			set, is := query.Server(x, q)
			cells, e := query.Ask(x, q)
			if is != (e == api.OK) || !is && (set != 0 || len(cells) > 0) {
				t.Fatalf("P4: %v: %d, %v, %v, %v", q, set, is, cells, e)
			}
			seen[e]++
		}
	}
	if seen[api.OK] < 500 || seen[api.BadQuery] < 500 || seen[api.NotThere] < 500 || len(seen) != 3 {
		t.Errorf("the die falls to one side: %v", seen)
	}
}
