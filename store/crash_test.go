package store_test

import (
	"fmt"
	"maps"
	"math"
	"math/rand"
	"slices"
	"strings"
	"testing"

	"hypercube/api"
	"hypercube/store"
)

// torn has files that are unsure, with and without sure bytes behind them, and, among them, sure ones; not written in the order of their names.
func torn(t *testing.T) *store.Store {
	t.Helper()
	s := store.New(100)
	write(t, s, "f", "seven77")
	synced(t, s, "d", "past")
	write(t, s, "d", "between")
	write(t, s, "d", "")
	synced(t, s, "e", "sure")
	synced(t, s, "b", "")
	write(t, s, "b", "4444")
	write(t, s, "c", "1")
	synced(t, s, "a", "sure")
	return s
}

func TestCrashP402(t *testing.T) {
	for _, x := range []struct {
		keep []int
		want string
	}{
		{nil, "a=sure b= d=past e=sure 12"},
		{[]int{}, "a=sure b= d=past e=sure 12"},
		{[]int{0, 0, 0, 0}, "a=sure b= d=past e=sure 12"},
		{[]int{1}, "a=sure b=4444 d=past e=sure 16"},
		{[]int{2}, "a=sure b=44 d=past e=sure 14"},
		{[]int{0, 1}, "a=sure b= c=1 d=past e=sure 13"},
		{[]int{0, 2}, "a=sure b= c= d=past e=sure 12"},
		{[]int{0, 0, 1}, "a=sure b= d= e=sure 8"},
		{[]int{0, 0, 2}, "a=sure b= d= e=sure 8"},
		{[]int{0, 0, 0, 1}, "a=sure b= d=past e=sure f=seven77 19"},
		{[]int{0, 0, 0, 2}, "a=sure b= d=past e=sure f=sev 15"},
		{[]int{1, 1, 1, 1}, "a=sure b=4444 c=1 d= e=sure f=seven77 20"},
		{[]int{2, 2, 2, 2}, "a=sure b=44 c= d= e=sure f=sev 13"},
		{[]int{3, -1, 4, 5}, "a=sure b= d=past e=sure 12"},
		{[]int{math.MaxInt, math.MinInt, 1 << 32, 1<<32 + 1}, "a=sure b= d=past e=sure 12"},
		{[]int{0, 0, 0, 0, 1, 1, 2, 2}, "a=sure b= d=past e=sure 12"},
		{[]int{2, 1, 2, 1, 2, 1, 2}, "a=sure b=44 c=1 d= e=sure f=seven77 18"},
	} {
		s := torn(t)
		had, deeds := holds(t, s), s.Trace()
		other := s.Crash(x.keep)
		mustHold(t, fmt.Sprint("P402: of ", x.keep), other, x.want)
		mustTrace(t, other)
		// all is sure
		for _, keep := range [][]int{nil, {2, 2, 2, 2, 2, 2}, {0, 1, 2}} {
			mustHold(t, "P402: again", other.Crash(keep), x.want)
		}
		// s stays, and crashes as it did
		mustHold(t, "P402: s", s, had)
		mustTrace(t, s, deeds...)
		mustHold(t, "P402: s again", s.Crash(x.keep), x.want)
		mustHold(t, "P402: s of all", s.Crash([]int{1, 1, 1, 1}), "a=sure b=4444 c=1 d= e=sure f=seven77 20")
	}
}

// What is written where a crash was has what it left behind it.
func TestGoesOnBehindACrashP402(t *testing.T) {
	s := torn(t).Crash([]int{2, 0, 0, 2})
	mustHold(t, "P402", s, "a=sure b=44 d=past e=sure f=sev 17")
	mustBe(t, "P402", s.Publish("f", "g"), api.OK)
	mustBe(t, "P402", s.Sync("c"), api.Missing)
	write(t, s, "b", "new")
	write(t, s, "d", "new")
	write(t, s, "d", "newest")
	mustHold(t, "P402", s.Crash([]int{0, 2}), "a=sure b=44 d=new e=sure g=sev 16")
	mustTrace(t, s, store.Op{Kind: store.Published, Name: "g"}, store.Op{Kind: store.Wrote, Name: "b"}, store.Op{Kind: store.Wrote, Name: "d"}, store.Op{Kind: store.Wrote, Name: "d"})
}

func TestCrashHasTheLimitP402(t *testing.T) {
	s := store.New(6)
	synced(t, s, "a", "123")
	other := s.Crash(nil)
	mustBe(t, "P402", other.Write("b", make([]byte, 4)), api.Full)
	mustBe(t, "P402", other.Write("b", make([]byte, 3)), api.OK)
	mustBe(t, "P402", other.Crash(nil).Write("b", make([]byte, 4)), api.Full)
	mustBe(t, "P402", other.Crash(nil).Write("b", make([]byte, 3)), api.OK)
}

// What was sure comes back beside what took its room: it is there (P403), and the store is more than full.
func TestMoreThanFullP402(t *testing.T) {
	s := store.New(4)
	synced(t, s, "a", "1234")
	write(t, s, "a", "")
	synced(t, s, "b", "567")
	other := s.Crash(nil)
	mustHold(t, "P402", other, "a=1234 b=567 7")
	mustBe(t, "P401", other.Write("a", []byte("12")), api.Full)
	mustBe(t, "P401", other.Write("b", []byte("5")), api.Full)
	write(t, other, "b", "")
	write(t, other, "a", "1")
	mustHold(t, "P401", other, "a=1 b= 1")
}

// life is a file as the test keeps it: all that was written of it, and up to which of these it is sure.
type life struct {
	bytes []string
	sure  int
}

func (l life) last() string { return l.bytes[len(l.bytes)-1] }
func (l life) safe() bool   { return l.sure == len(l.bytes) }

// world is the files as the test keeps them.
type world map[string]life

func (w world) used() int {
	sum := 0
	for _, l := range w {
		sum += len(l.last())
	}
	return sum
}

func (w world) told() string {
	out := ""
	for _, name := range slices.Sorted(maps.Keys(w)) {
		out += fmt.Sprintf("%s=%s ", name, w[name].last())
	}
	return out + fmt.Sprint(w.used())
}

// crashed is the world behind a crash.
func (w world) crashed(keep []int) world {
	out := world{}
	for _, name := range slices.Sorted(maps.Keys(w)) {
		l := w[name]
		left := l.bytes[:l.sure]
		if !l.safe() {
			next := 0
			if len(keep) > 0 {
				next, keep = keep[0], keep[1:]
			}
			if next == 1 {
				left = l.bytes
			} else if next == 2 {
				left = []string{l.last()[:len(l.last())/2]}
			}
		}
		if len(left) > 0 {
			out[name] = life{[]string{left[len(left)-1]}, 1}
		}
	}
	return out
}

const limit = 50

// deed does one thing to the world, and answers what must come of it.
func (w world) deed(kind int, name, to, b string) api.Errno {
	l, is := w[name]
	switch kind {
	case store.Wrote:
		had := 0
		if is {
			had = len(l.last())
		}
		if name == "" {
			return api.BadInput
		} else if w.used()-had+len(b) > limit {
			return api.Full
		}
		w[name] = life{append(slices.Clone(l.bytes), b), l.sure}
	case store.Synced:
		if !is {
			return api.Missing
		}
		w[name] = life{l.bytes, len(l.bytes)}
	case store.Published:
		if _, there := w[to]; to == "" {
			return api.BadInput
		} else if !is {
			return api.Missing
		} else if !l.safe() {
			return api.Unsynced
		} else if there {
			return api.Exists
		}
		delete(w, name)
		w[to] = l
	case store.Removed:
		if !is {
			return api.Missing
		}
		delete(w, name)
	}
	return api.OK
}

func do(s *store.Store, kind int, name, to, b string) api.Errno {
	switch kind {
	case store.Wrote:
		return s.Write(name, []byte(b))
	case store.Synced:
		return s.Sync(name)
	case store.Published:
		return s.Publish(name, to)
	}
	return s.Remove(name)
}

// Stores live, crash, and live on; each crash on the way is looked at, too.
func TestSureBehindAnyCrashP403(t *testing.T) {
	die := rand.New(rand.NewSource(1))
	names := []string{"", "a", "aa", "b", "c", "\xff"}
	seen := map[api.Errno]int{}
	for range 300 {
		s, w := store.New(limit), world{}
		var deeds []store.Op
		for range 60 {
			kind, name, to := 1+die.Intn(4), names[die.Intn(len(names))], names[die.Intn(len(names))]
			b := strings.Repeat(string(rune('a'+die.Intn(26))), die.Intn(25))
			want := w.deed(kind, name, to, b)
			mustBe(t, "P401", do(s, kind, name, to, b), want)
			seen[want]++
			if want == api.OK {
				deeds = append(deeds, store.Op{Kind: kind, Name: map[bool]string{false: name, true: to}[kind == store.Published]})
			}
			mustHold(t, "P401", s, w.told())
			mustTrace(t, s, deeds...)
			keep := make([]int, die.Intn(7))
			for i := range keep {
				keep[i] = die.Intn(5) - 1
			}
			mustHold(t, "P403", s.Crash(keep), w.crashed(keep).told())
			if die.Intn(20) == 0 {
				s, w, deeds = s.Crash(keep), w.crashed(keep), nil
			}
			if t.Failed() {
				t.Fatalf("after %d %q %q %q, keep %v", kind, name, to, b, keep)
			}
		}
	}
	for _, e := range []api.Errno{api.OK, api.BadInput, api.Full, api.Missing, api.Unsynced, api.Exists} {
		if seen[e] < 100 {
			t.Errorf("the die falls to one side: %v %d times", e, seen[e])
		}
	}
}
