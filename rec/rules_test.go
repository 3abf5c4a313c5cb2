package rec_test

import (
	"bytes"
	"math"
	"reflect"
	"testing"

	"hypercube/api"
	"hypercube/rec"
)

// spare answers a list with room behind it that holds a mark.
func spare(list ...int) []int {
	return append(append(make([]int, 0, len(list)+2), list...), 77, 77)[:len(list)]
}

func spareFacts() (api.Schema, []api.Row) {
	s := api.Schema{Cards: spare(3, 16), Measures: 1}
	rows := make([]api.Row, 2, 4)
	rows[0] = api.Row{Key: spare(2, 15), M: spare(-9)}
	rows[1] = api.Row{Key: spare(0, 0), M: spare(math.MaxInt)}
	return s, rows
}

// whole answers a list with its spare room.
func whole(list []int) []int { return list[:cap(list)] }

func wholeFacts(s api.Schema, rows []api.Row) [][]int {
	lists := [][]int{whole(s.Cards)}
	for _, r := range rows[:cap(rows)] {
		lists = append(lists, whole(r.Key), whole(r.M))
	}
	return lists
}

func TestNothingHandedInChangesP2(t *testing.T) {
	s, rows := spareFacts()
	same, sameRows := spareFacts()
	rec.Check(s)
	for _, r := range rows {
		rec.Right(s, r)
	}
	rec.Sound(s, rows)
	b := rec.Encode(s, rows)
	if !reflect.DeepEqual(wholeFacts(s, rows), wholeFacts(same, sameRows)) {
		t.Error("P2: facts that were handed in are changed")
	}
	room := append(bytes.Clone(b), 77, 77)
	rec.Decode(room[:len(b)])
	if !bytes.Equal(room, append(bytes.Clone(b), 77, 77)) {
		t.Error("P2: bytes that were handed in are changed")
	}
}

func TestAnswersAreNewP2(t *testing.T) {
	s, rows := spareFacts()
	b, first := rec.Encode(s, rows), rec.Encode(s, rows)
	clear(b[:cap(b)])
	if second := rec.Encode(s, rows); !bytes.Equal(first, second) {
		t.Errorf("P2: Encode answers %q, then %q", first, second)
	}
	got, list, _ := rec.Decode(first)
	clear(first)
	if !reflect.DeepEqual(got.Cards, []int{3, 16}) || !reflect.DeepEqual(list, []api.Row{{Key: []int{2, 15}, M: []int{-9}}, {Key: []int{0, 0}, M: []int{math.MaxInt}}}) {
		t.Errorf("P2: the answer keeps the bytes: %v, %v", got, list)
	}
}

// Each list of an answer is filled, its spare room too, with a number of its own: none of them may lose it to another.
func TestListsAreApartP2(t *testing.T) {
	s, rows := spareFacts()
	got, list, _ := rec.Decode(rec.Encode(s, rows))
	lists := wholeFacts(got, list)
	for i, l := range lists {
		for j := range l {
			l[j] = i
		}
	}
	for i, l := range lists {
		for _, v := range l {
			if v != i {
				t.Fatalf("P2: lists %d and %d share memory", i, v)
			}
		}
	}
}

func TestSameAgainP3(t *testing.T) {
	s, rows := spareFacts()
	b := rec.Encode(s, rows)
	s1, rows1, e1 := rec.Decode(b)
	rec.Decode(nil)
	s2, rows2, e2 := rec.Decode(b)
	if !reflect.DeepEqual(s1, s2) || !reflect.DeepEqual(rows1, rows2) || e1 != e2 {
		t.Errorf("P3: %v, %v, %v, then %v, %v, %v", s1, rows1, e1, s2, rows2, e2)
	}
}

// What may not be handed in: the calls end, do not panic, change nothing.
func TestHandedInWhereItMayNotBeP8(t *testing.T) {
	schemas := []api.Schema{
		{}, {Cards: []int{0}}, {Cards: []int{17}}, {Cards: []int{-1, 300}}, {Cards: []int{1, 1, 1, 1, 1}},
		{Cards: []int{2}, Measures: -1}, {Cards: []int{2}, Measures: 3}, {Cards: []int{2}, Measures: math.MaxInt}, {Cards: []int{2}, Measures: math.MinInt},
		{Cards: make([]int, 70000)}, {Cards: []int{2}, Measures: 1},
	}
	facts := [][]api.Row{
		{{}}, {{Key: []int{2}, M: []int{0}}}, {{Key: []int{-1}, M: []int{0}}}, {{Key: []int{0}}}, {{M: []int{1}}},
		{{Key: []int{0, 0}, M: []int{1, 2, 3}}}, {{Key: []int{1}, M: []int{1}}, {Key: []int{256}, M: []int{1}}},
		make([]api.Row, 70000),
	}
	for i, s := range schemas {
		for j, rows := range facts {
			rec.Check(s)
			rec.Right(s, rows[0])
			rec.Sound(s, rows)
			if b := rec.Encode(s, rows); len(b) > 0 {
				t.Errorf("P9: Encode of schema %d, rows %d: %d bytes", i, j, len(b))
			}
		}
	}
	many := make([]api.Row, 301)
	for i := range many {
		many[i] = api.Row{Key: []int{0}}
	}
	if b := rec.Encode(api.Schema{Cards: []int{1}}, many); len(b) > 0 {
		t.Errorf("P9: Encode of 301 rows: %d bytes", len(b))
	}
}

func FuzzDecodeP101(f *testing.F) {
	f.Add([]byte("CUB1\x01\x01\x00\x00\x00"))
	f.Add([]byte("CUB1\x02\x03\x10\x01\x00\x01\x02\x0f\xff\xff\xff\xff\xff\xff\xff\xfe"))
	f.Add([]byte("CUB1\xff"))
	f.Fuzz(func(t *testing.T, b []byte) { mustJudge(t, b) })
}
