package store_test

import (
	"fmt"
	"math"
	"slices"
	"strings"
	"testing"

	"hypercube/api"
	"hypercube/store"
)

// holds are a store's files, each as name=bytes, and how many bytes they have.
func holds(t *testing.T, s *store.Store) string {
	t.Helper()
	out := ""
	for _, name := range s.Names() {
		b, is := s.Read(name)
		if !is {
			t.Errorf("P401: Names tells %q, Read does not", name)
		}
		out += fmt.Sprintf("%s=%s ", name, b)
	}
	return out + fmt.Sprint(s.Used())
}

func mustHold(t *testing.T, promise string, s *store.Store, want string) {
	t.Helper()
	if got := holds(t, s); got != want {
		t.Errorf("%s: %q, not %q", promise, got, want)
	}
}

func mustBe(t *testing.T, promise string, got, want api.Errno) {
	t.Helper()
	if got != want {
		t.Errorf("%s: %v, not %v", promise, got, want)
	}
}

func mustTrace(t *testing.T, s *store.Store, want ...store.Op) {
	t.Helper()
	if got := s.Trace(); !slices.Equal(got, want) {
		t.Errorf("P401: Trace %v, not %v", got, want)
	}
}

// write, synced, do what is OK.
func write(t *testing.T, s *store.Store, name, b string) {
	t.Helper()
	mustBe(t, fmt.Sprintf("P401: Write %q", name), s.Write(name, []byte(b)), api.OK)
}

func synced(t *testing.T, s *store.Store, name, b string) {
	t.Helper()
	write(t, s, name, b)
	mustBe(t, fmt.Sprintf("P401: Sync %q", name), s.Sync(name), api.OK)
}

func TestNewP401(t *testing.T) {
	for _, limit := range []int{0, 1, 100, math.MaxInt} {
		s := store.New(limit)
		mustHold(t, "P401", s, "0")
		mustTrace(t, s)
		mustHold(t, "P402", s.Crash([]int{1, 1}), "0")
	}
}

// W4: bytes are counted, not runes; any will do.
func TestNamesOfFilesP401(t *testing.T) {
	s := store.New(0)
	for _, name := range []string{"a", "\x00", " ", "\xff\xfe", strings.Repeat("n", 20), strings.Repeat("é", 10), strings.Repeat("\x80", 20)} {
		synced(t, s, name, "")
		if b, is := s.Read(name); !is || len(b) > 0 {
			t.Errorf("P401: Read %q: %q, %v", name, b, is)
		}
	}
	had := s.Names()
	for _, name := range []string{"", strings.Repeat("n", 21), strings.Repeat("é", 11), strings.Repeat("n", 276), strings.Repeat("n", 70000)} {
		mustBe(t, "P401: Write", s.Write(name, nil), api.BadInput)
		mustBe(t, "P401: Publish to", s.Publish("a", name), api.BadInput)
		mustBe(t, "P401: Publish from", s.Publish(name, "b"), api.Missing)
		mustBe(t, "P401: Sync", s.Sync(name), api.Missing)
		mustBe(t, "P401: Remove", s.Remove(name), api.Missing)
		if _, is := s.Read(name); is {
			t.Errorf("P401: Read %q", name)
		}
	}
	if got := s.Names(); !slices.Equal(got, had) {
		t.Errorf("P401: %q, not %q", got, had)
	}
}

func TestNamesRiseP401(t *testing.T) {
	s := store.New(0)
	for _, name := range []string{"b", "ab", "é", "a", "\xff", "B", "b\x00", "aa", "10", "9", "\x00"} {
		write(t, s, name, "")
	}
	want := []string{"\x00", "10", "9", "B", "a", "aa", "ab", "b", "b\x00", "é", "\xff"}
	if got := s.Names(); !slices.Equal(got, want) {
		t.Errorf("P401: %q, not %q", got, want)
	}
}

func TestLimitP401(t *testing.T) {
	s := store.New(10)
	mustBe(t, "P401", s.Write("a", make([]byte, 11)), api.Full)
	write(t, s, "a", "1234567890")
	mustBe(t, "P401", s.Write("b", []byte("x")), api.Full)
	write(t, s, "b", "")
	mustBe(t, "P401", s.Write("a", make([]byte, 11)), api.Full)
	mustHold(t, "P5", s, "a=1234567890 b= 10")
	write(t, s, "a", "0987654321")
	write(t, s, "a", "123")
	mustBe(t, "P401", s.Write("b", make([]byte, 8)), api.Full)
	write(t, s, "b", "4567890")
	mustHold(t, "P401", s, "a=123 b=4567890 10")
	mustBe(t, "P401", s.Sync("b"), api.OK)
	mustBe(t, "P401", s.Publish("b", "c"), api.OK)
	mustBe(t, "P401", s.Write("b", []byte("x")), api.Full)
	mustBe(t, "P401", s.Remove("c"), api.OK)
	write(t, s, "b", "7654321")
	mustHold(t, "P401", s, "a=123 b=7654321 10")
}

// What is sure behind what is written takes no room.
func TestOnlyWhatIsReadTakesRoomP401(t *testing.T) {
	s := store.New(4)
	synced(t, s, "a", "1234")
	write(t, s, "a", "")
	write(t, s, "b", "5678")
	mustHold(t, "P401", s, "a= b=5678 4")
}

func TestLimitsAtTheEndsP401(t *testing.T) {
	none := store.New(0)
	write(t, none, "a", "")
	mustBe(t, "P401", none.Write("a", []byte{0}), api.Full)
	mustHold(t, "P401", none, "a= 0")
	vast := store.New(math.MaxInt)
	write(t, vast, "a", "123")
	write(t, vast, "b", "456")
	mustHold(t, "P401", vast, "a=123 b=456 6")
}

func TestSyncP401(t *testing.T) {
	s := store.New(9)
	mustBe(t, "P401", s.Sync("a"), api.Missing)
	write(t, s, "a", "one")
	mustBe(t, "P401", s.Publish("a", "b"), api.Unsynced)
	for range 2 {
		mustBe(t, "P401", s.Sync("a"), api.OK)
		mustHold(t, "P401", s, "a=one 3")
		mustHold(t, "P403", s.Crash(nil), "a=one 3")
	}
	// the same bytes again are unsure, too
	write(t, s, "a", "one")
	mustBe(t, "P401", s.Publish("a", "b"), api.Unsynced)
	mustBe(t, "P401", s.Sync("b"), api.Missing)
}

func TestPublishP401(t *testing.T) {
	s := store.New(20)
	synced(t, s, "new", "sure")
	synced(t, s, "old", "x")
	mustBe(t, "P401", s.Publish("new", "old"), api.Exists)
	mustBe(t, "P401", s.Publish("new", "new"), api.Exists)
	mustHold(t, "P5", s, "new=sure old=x 5")
	mustBe(t, "P401", s.Publish("new", "name"), api.OK)
	mustHold(t, "P401", s, "name=sure old=x 5")
	mustHold(t, "P403", s.Crash(nil), "name=sure old=x 5")
	mustBe(t, "P401", s.Publish("new", "other"), api.Missing)
	// nothing is sure of what is written where it was
	write(t, s, "new", "again")
	mustHold(t, "P402", s.Crash(nil), "name=sure old=x 5")
	// what is published is a file as others are
	write(t, s, "name", "more")
	mustHold(t, "P402", s.Crash([]int{0, 1}), "name=sure new=again old=x 10")
	mustBe(t, "P401", s.Publish("name", "n"), api.Unsynced)
	mustBe(t, "P401", s.Sync("name"), api.OK)
	mustBe(t, "P401", s.Publish("name", "n"), api.OK)
	mustHold(t, "P401", s, "n=more new=again old=x 10")
}

func TestFirstErrorP6(t *testing.T) {
	s := store.New(3)
	write(t, s, "unsure", "12")
	synced(t, s, "sure", "3")
	long := strings.Repeat("n", 21)
	mustBe(t, "P6", s.Write(long, make([]byte, 9)), api.BadInput)
	mustBe(t, "P6", s.Write("", make([]byte, 9)), api.BadInput)
	for _, from := range []string{"none", "unsure", "sure", "", long} {
		mustBe(t, "P6", s.Publish(from, long), api.BadInput)
	}
	for _, to := range []string{"none", "unsure", "sure"} {
		mustBe(t, "P6", s.Publish("none", to), api.Missing)
		mustBe(t, "P6", s.Publish("unsure", to), api.Unsynced)
	}
}

func TestRemoveP401(t *testing.T) {
	s := store.New(9)
	mustBe(t, "P401", s.Remove("a"), api.Missing)
	synced(t, s, "a", "sure")
	write(t, s, "a", "unsure")
	write(t, s, "b", "b")
	mustBe(t, "P401", s.Remove("a"), api.OK)
	mustHold(t, "P401", s, "b=b 1")
	mustBe(t, "P401", s.Remove("a"), api.Missing)
	mustBe(t, "P401", s.Sync("a"), api.Missing)
	mustHold(t, "P402", s.Crash([]int{1, 1}), "b=b 1")
	write(t, s, "a", "other")
	mustHold(t, "P402", s.Crash(nil), "0")
	mustBe(t, "P401", s.Remove("b"), api.OK)
	mustBe(t, "P401", s.Remove("a"), api.OK)
	mustHold(t, "P401", s, "0")
}

func TestReadP401(t *testing.T) {
	s := store.New(9)
	if b, is := s.Read("a"); is || b != nil {
		t.Errorf("P4: Read of none: %q, %v", b, is)
	}
	write(t, s, "a", "")
	if b, is := s.Read("a"); !is || len(b) > 0 {
		t.Errorf("P401: Read of a file of no bytes: %q, %v", b, is)
	}
	write(t, s, "a", "\x00\xff\x00")
	if b, is := s.Read("a"); !is || string(b) != "\x00\xff\x00" {
		t.Errorf("P401: Read %q, %v", b, is)
	}
}

func TestTraceP401(t *testing.T) {
	if store.Wrote != 1 || store.Synced != 2 || store.Published != 3 || store.Removed != 4 {
		t.Error("P401: the kinds' numbers")
	}
	s := store.New(3)
	s.Write("", nil)
	s.Write("a", make([]byte, 4))
	s.Sync("a")
	s.Publish("a", "b")
	s.Remove("a")
	mustTrace(t, s)
	s.Write("a", nil)
	s.Publish("a", "b")
	s.Sync("a")
	s.Sync("a")
	s.Publish("a", "a")
	s.Publish("a", "b")
	s.Read("b")
	s.Crash(nil)
	s.Remove("a")
	s.Write("b", []byte("123"))
	s.Remove("b")
	want := []store.Op{{1, "a"}, {2, "a"}, {2, "a"}, {3, "b"}, {1, "b"}, {4, "b"}}
	mustTrace(t, s, want...)
	s.Write("c", nil)
	mustTrace(t, s, append(want, store.Op{Kind: store.Wrote, Name: "c"})...)
}
