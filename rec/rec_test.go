package rec_test

import (
	"bytes"
	"encoding/binary"
	"math"
	"math/big"
	"math/rand"
	"reflect"
	"strings"
	"testing"

	"hypercube/api"
	"hypercube/rec"
)

// ends are numbers at both ends of what an int can be, around 0, and at the borders of bytes.
var ends = []int{0, 1, -1, 2, -2, 127, 128, 255, 256, -255, -256, -257, 1 << 32, -1 << 32, 1 << 62, -1 << 62, math.MaxInt - 1, math.MinInt + 1, math.MaxInt, math.MinInt}

// someSchema, someRows, someNumber are chosen by a die that always falls alike.
func someSchema(d *rand.Rand) api.Schema {
	s := api.Schema{Measures: d.Intn(api.MaxMeasures + 1)}
	for range 1 + d.Intn(api.MaxDims) {
		s.Cards = append(s.Cards, 1+d.Intn(api.MaxCard))
	}
	return s
}

func someNumber(d *rand.Rand) int {
	if d.Intn(2) == 0 {
		return ends[d.Intn(len(ends))]
	}
	return int(d.Uint64())
}

func someRows(d *rand.Rand, s api.Schema, count int) []api.Row {
	rows := make([]api.Row, count)
	for i := range rows {
		for _, card := range s.Cards {
			rows[i].Key = append(rows[i].Key, d.Intn(card))
		}
		for range s.Measures {
			rows[i].M = append(rows[i].M, someNumber(d))
		}
	}
	return rows
}

// plainEncode says P101's Encode once more, in other words.
func plainEncode(s api.Schema, rows []api.Row) []byte {
	b := append([]byte("CUB1"), byte(len(s.Cards)))
	for _, card := range s.Cards {
		b = append(b, byte(card))
	}
	b = append(b, byte(s.Measures))
	b = binary.BigEndian.AppendUint16(b, uint16(len(rows)))
	for _, r := range rows {
		for _, v := range r.Key {
			b = append(b, byte(v))
		}
		for _, m := range r.M {
			b = binary.BigEndian.AppendUint64(b, uint64(m))
		}
	}
	return b
}

// plainRight tells whether b is Encode of what it may be handed, byte by byte.
func plainRight(b []byte) bool {
	if !bytes.HasPrefix(b, []byte("CUB1")) || len(b) < 5 || b[4] < 1 || b[4] > 4 {
		return false
	}
	dims := int(b[4])
	if len(b) < 5+dims+3 {
		return false
	}
	cards, measures := b[5:5+dims], int(b[5+dims])
	for _, card := range cards {
		if card < 1 || card > 16 {
			return false
		}
	}
	count := int(binary.BigEndian.Uint16(b[5+dims+1:]))
	body := b[5+dims+3:]
	row := dims + 8*measures
	if measures > 2 || count > 300 || len(body) != count*row {
		return false
	}
	for i := range count {
		for j, card := range cards {
			if body[i*row+j] >= card {
				return false
			}
		}
	}
	return true
}

// sameRows holds rows against each other; no list and an empty one are the same.
func sameRows(a, b []api.Row) bool {
	if len(a) != len(b) {
		return false
	}
	for i := range a {
		if !sameList(a[i].Key, b[i].Key) || !sameList(a[i].M, b[i].M) {
			return false
		}
	}
	return true
}

func sameList(a, b []int) bool {
	return len(a) == 0 && len(b) == 0 || reflect.DeepEqual(a, b)
}

// mustRefuse holds what Decode answers of b against BadInput with zero values beside it (P4).
func mustRefuse(t *testing.T, what string, b []byte) {
	t.Helper()
	s, rows, e := rec.Decode(b)
	if e != api.BadInput || len(s.Cards) != 0 || s.Measures != 0 || len(rows) != 0 {
		t.Errorf("P101: Decode of %s %q: %v, %v, %v", what, b, s, rows, e)
	}
}

func mustBack(t *testing.T, s api.Schema, rows []api.Row) {
	t.Helper()
	b := rec.Encode(s, rows)
	if want := plainEncode(s, rows); !bytes.Equal(b, want) {
		t.Fatalf("P101: Encode of %v, %v: %q, not %q", s, rows, b, want)
	}
	s2, rows2, e := rec.Decode(b)
	if e != api.OK || !sameList(s2.Cards, s.Cards) || s2.Measures != s.Measures || !sameRows(rows2, rows) {
		t.Fatalf("P103: %v, %v: %v, %v, %v", s, rows, s2, rows2, e)
	}
}

func TestCheckP101(t *testing.T) {
	for _, x := range []struct {
		cards    []int
		measures int
		want     bool
	}{
		{nil, 0, false}, {[]int{}, 1, false},
		{[]int{1}, 0, true}, {[]int{16}, 0, true}, {[]int{2, 3}, 1, true}, {[]int{2, 3, 4}, 1, true},
		{[]int{1, 16, 1, 16}, 2, true}, {[]int{16, 16, 16, 16}, 2, true}, {[]int{2, 2, 2, 2, 2}, 0, false},
		{[]int{0}, 0, false}, {[]int{17}, 0, false}, {[]int{-1}, 0, false},
		{[]int{math.MinInt}, 0, false}, {[]int{math.MaxInt}, 0, false}, {[]int{256 + 1}, 0, false},
		{[]int{0, 2, 2, 2}, 0, false}, {[]int{2, 17, 2, 2}, 0, false}, {[]int{2, 2, 2, 0}, 0, false}, {[]int{2, 2, 2, 17}, 0, false},
		{[]int{2}, 1, true}, {[]int{2}, 2, true}, {[]int{2}, 3, false}, {[]int{2}, -1, false},
		{[]int{2}, math.MinInt, false}, {[]int{2}, math.MaxInt, false},
		{make([]int, 100000), 0, false},
	} {
		if got := rec.Check(api.Schema{Cards: x.cards, Measures: x.measures}); got != x.want {
			t.Errorf("P101: Check of %d cards, %v.., Measures %d: %v", len(x.cards), x.cards[:min(5, len(x.cards))], x.measures, got)
		}
	}
}

func TestRightP101(t *testing.T) {
	s := api.Schema{Cards: []int{1, 16, 3}, Measures: 2}
	for _, x := range []struct {
		key, m []int
		want   bool
	}{
		{[]int{0, 0, 0}, []int{0, 0}, true}, {[]int{0, 15, 2}, []int{math.MinInt, math.MaxInt}, true},
		{[]int{1, 0, 0}, []int{0, 0}, false}, {[]int{0, 16, 0}, []int{0, 0}, false}, {[]int{0, 0, 3}, []int{0, 0}, false},
		{[]int{-1, 0, 0}, []int{0, 0}, false}, {[]int{0, -1, 0}, []int{0, 0}, false}, {[]int{0, 0, -1}, []int{0, 0}, false},
		{[]int{0, math.MaxInt, 0}, []int{0, 0}, false}, {[]int{0, math.MinInt, 0}, []int{0, 0}, false}, {[]int{0, 256, 0}, []int{0, 0}, false},
		{nil, []int{0, 0}, false}, {[]int{0, 0}, []int{0, 0}, false}, {[]int{0, 0, 0, 0}, []int{0, 0}, false},
		{[]int{0, 0, 0}, nil, false}, {[]int{0, 0, 0}, []int{0}, false}, {[]int{0, 0, 0}, []int{0, 0, 0}, false},
		{nil, nil, false},
	} {
		if got := rec.Right(s, api.Row{Key: x.key, M: x.m}); got != x.want {
			t.Errorf("P101: Right of %v, %v: %v", x.key, x.m, got)
		}
	}
	if !rec.Right(api.Schema{Cards: []int{2}}, api.Row{Key: []int{1}}) || rec.Right(api.Schema{Cards: []int{2}}, api.Row{Key: []int{1}, M: []int{0}}) {
		t.Error("P101: Right of no measures")
	}
}

// Right takes any schema: the promise's words hold of those too that Check refuses.
func TestRightOfAnySchemaP101(t *testing.T) {
	for i, x := range []struct {
		s    api.Schema
		r    api.Row
		want bool
	}{
		{api.Schema{}, api.Row{}, true},
		{api.Schema{}, api.Row{Key: []int{0}}, false},
		{api.Schema{Measures: -1}, api.Row{}, false},
		{api.Schema{Measures: math.MinInt}, api.Row{}, false},
		{api.Schema{Measures: math.MaxInt}, api.Row{}, false},
		{api.Schema{Measures: 3}, api.Row{M: []int{1, 2, 3}}, true},
		{api.Schema{Cards: []int{0}}, api.Row{Key: []int{0}}, false},
		{api.Schema{Cards: []int{-3}}, api.Row{Key: []int{-4}}, false},
		{api.Schema{Cards: []int{math.MinInt}}, api.Row{Key: []int{0}}, false},
		{api.Schema{Cards: []int{math.MinInt}}, api.Row{Key: []int{math.MaxInt}}, false},
		{api.Schema{Cards: []int{17}}, api.Row{Key: []int{16}}, true},
		{api.Schema{Cards: []int{math.MaxInt}}, api.Row{Key: []int{math.MaxInt - 1}}, true},
		{api.Schema{Cards: []int{math.MaxInt}}, api.Row{Key: []int{math.MaxInt}}, false},
		{api.Schema{Cards: []int{1, 1, 1, 1, 1}}, api.Row{Key: []int{0, 0, 0, 0, 0}}, true},
	} {
		if got := rec.Right(x.s, x.r); got != x.want {
			t.Errorf("P101: %d: Right(%v, %v): %v", i, x.s, x.r, got)
		}
	}
}

func TestEncodeP101(t *testing.T) {
	for _, x := range []struct {
		s    api.Schema
		rows []api.Row
		want string
	}{
		{api.Schema{Cards: []int{1}}, nil, "CUB1\x01\x01\x00\x00\x00"},
		{api.Schema{Cards: []int{1}}, []api.Row{{Key: []int{0}}}, "CUB1\x01\x01\x00\x00\x01\x00"},
		{api.Schema{Cards: []int{16, 1, 2, 3}, Measures: 2}, nil, "CUB1\x04\x10\x01\x02\x03\x02\x00\x00"},
		{
			api.Schema{Cards: []int{16, 3}, Measures: 2},
			[]api.Row{{Key: []int{15, 0}, M: []int{math.MaxInt64, math.MinInt64}}, {Key: []int{0, 2}, M: []int{-1, 0x0102030405060708}}},
			"CUB1\x02\x10\x03\x02\x00\x02" +
				"\x0f\x00\x7f\xff\xff\xff\xff\xff\xff\xff\x80\x00\x00\x00\x00\x00\x00\x00" +
				"\x00\x02\xff\xff\xff\xff\xff\xff\xff\xff\x01\x02\x03\x04\x05\x06\x07\x08",
		},
	} {
		if got := string(rec.Encode(x.s, x.rows)); got != x.want {
			t.Errorf("P101: Encode(%v, %v): %q, not %q", x.s, x.rows, got, x.want)
		}
	}
}

func TestMostRowsP101(t *testing.T) {
	d := rand.New(rand.NewSource(1))
	s := api.Schema{Cards: []int{16, 16, 16, 16}, Measures: 2}
	rows := someRows(d, s, 301)
	b := rec.Encode(s, rows[:300])
	if len(b) != 12+300*20 || string(b[9:12]) != "\x02\x01\x2c" {
		t.Errorf("P101: of 300 rows %d bytes, %q", len(b), b[:min(12, len(b))])
	}
	mustBack(t, s, rows[:300])
	mustBack(t, s, rows[:256])
	mustBack(t, s, rows[:255])
	mustRefuse(t, "301 rows", plainEncode(s, rows))
	mustRefuse(t, "65535 rows", append([]byte("CUB1\x01\x01\x00\xff\xff"), make([]byte, 65535)...))
}

func TestThereAndBackP103(t *testing.T) {
	mustBack(t, api.Schema{Cards: []int{1}}, nil)
	mustBack(t, api.Schema{Cards: []int{16}, Measures: 2}, nil)
	two := api.Schema{Cards: []int{2, 16}, Measures: 2}
	for _, a := range ends {
		for _, b := range ends {
			mustBack(t, two, []api.Row{{Key: []int{1, 15}, M: []int{a, b}}})
		}
	}
	d := rand.New(rand.NewSource(2))
	for range 2000 {
		s := someSchema(d)
		mustBack(t, s, someRows(d, s, d.Intn(30)))
	}
}

// Whatever Decode takes comes back from Encode as it was, and it takes just what is right.
func mustJudge(t *testing.T, b []byte) {
	t.Helper()
	if !plainRight(b) {
		mustRefuse(t, "bytes that are not right", b)
		return
	}
	s, rows, e := rec.Decode(b)
	if e != api.OK || !bytes.Equal(rec.Encode(s, rows), b) {
		t.Errorf("P101: Decode of %q: %v, %v, %v", b, s, rows, e)
	}
}

func TestDecodeSpoiledP101(t *testing.T) {
	d := rand.New(rand.NewSource(3))
	for range 60 {
		s := someSchema(d)
		b := rec.Encode(s, someRows(d, s, d.Intn(4)))
		for i := range b {
			mustRefuse(t, "cut off bytes", b[:i])
			for v := range 256 {
				c := bytes.Clone(b)
				c[i] = byte(v)
				mustJudge(t, c)
			}
			mustJudge(t, append(bytes.Clone(b[:i]), b[i+1:]...))
			for _, v := range []byte{0, 1, 2, 16, 255} {
				mustJudge(t, append(append(bytes.Clone(b[:i]), v), b[i:]...))
			}
		}
		for i := 1; i < len(b); i++ {
			c := bytes.Clone(b)
			c[i-1], c[i] = c[i], c[i-1]
			mustJudge(t, c)
		}
		mustRefuse(t, "one byte more", append(bytes.Clone(b), 0))
	}
}

func TestDecodeWrongP101(t *testing.T) {
	for what, b := range map[string]string{
		"no bytes":             "",
		"a mark alone":         "CUB1",
		"a part of a mark":     "CUB",
		"another mark":         "CUB2\x01\x01\x00\x00\x00",
		"a small mark":         "cub1\x01\x01\x00\x00\x00",
		"no cards":             "CUB1\x00\x00\x00\x00",
		"five cards":           "CUB1\x05\x01\x01\x01\x01\x01\x00\x00\x00",
		"255 cards":            "CUB1\xff" + strings.Repeat("\x01", 255) + "\x00\x00\x00",
		"a card of 0":          "CUB1\x01\x00\x00\x00\x00",
		"a card of 17":         "CUB1\x01\x11\x00\x00\x00",
		"a last card of 17":    "CUB1\x04\x01\x01\x01\x11\x00\x00\x00",
		"three measures":       "CUB1\x01\x01\x03\x00\x00",
		"255 measures":         "CUB1\x01\x01\xff\x00\x00",
		"a value of 1 of 1":    "CUB1\x01\x01\x00\x00\x01\x01",
		"a value of 16 of 16":  "CUB1\x01\x10\x00\x00\x01\x10",
		"a value of 255":       "CUB1\x01\x10\x00\x00\x01\xff",
		"a wrong second row":   "CUB1\x01\x02\x00\x00\x02\x01\x02",
		"a row too few":        "CUB1\x01\x02\x00\x00\x02\x01",
		"a row too many":       "CUB1\x01\x02\x00\x00\x01\x01\x01",
		"rows counted lowest":  "CUB1\x01\x02\x00\x01\x00\x01",
		"a measure cut off":    "CUB1\x01\x02\x01\x00\x01\x01\x00\x00\x00\x00\x00\x00\x00",
		"no bytes of the rows": "CUB1\x01\x02\x01\x01\x2c",
	} {
		mustRefuse(t, what, []byte(b))
	}
	for v, ok := range map[int]bool{15: true, 16: false} {
		if _, _, e := rec.Decode([]byte{'C', 'U', 'B', '1', 1, 16, 0, 0, 1, byte(v)}); (e == api.OK) != ok {
			t.Errorf("P101: value %d of 16: %v", v, e)
		}
	}
}

func oneMeasure(list ...int) []api.Row {
	rows := make([]api.Row, len(list))
	for i, m := range list {
		rows[i] = api.Row{Key: []int{0}, M: []int{m}}
	}
	return rows
}

func TestSoundP102(t *testing.T) {
	const most, least = math.MaxInt, math.MinInt
	s := api.Schema{Cards: []int{1}, Measures: 1}
	for _, x := range []struct {
		list []int
		want bool
	}{
		{nil, true}, {[]int{0}, true}, {[]int{most}, true}, {[]int{least}, true},
		{[]int{most, 0}, true}, {[]int{most, 1}, false}, {[]int{1, most}, false}, {[]int{most - 1, 1}, true}, {[]int{most, most}, false},
		{[]int{least, 0}, true}, {[]int{least, -1}, false}, {[]int{-1, least}, false}, {[]int{least + 1, -1}, true}, {[]int{least, least}, false},
		{[]int{most, least}, true}, {[]int{most, -1, 1}, false}, {[]int{least, 1, -1}, false}, {[]int{-5, most, 1}, false},
		{[]int{1 << 62, 1 << 62}, false}, {[]int{-1 << 62, -1 << 62}, true}, {[]int{-1 << 62, -1 << 62, -1}, false},
		// All together these go round once and more.
		{[]int{most, most, 2}, false}, {[]int{1 << 62, 1 << 62, 1 << 62, 1 << 62}, false}, {[]int{least, least, least}, false},
	} {
		if got := rec.Sound(s, oneMeasure(x.list...)); got != x.want {
			t.Errorf("P102: Sound of %v: %v", x.list, got)
		}
	}
	if !rec.Sound(api.Schema{Cards: []int{1}}, []api.Row{{Key: []int{0}}, {Key: []int{0}}}) {
		t.Error("P102: Sound of no measures")
	}
}

func TestSoundOfTwoMeasuresP102(t *testing.T) {
	s := api.Schema{Cards: []int{2}, Measures: 2}
	for _, x := range []struct {
		first, second [2]int
		want          bool
	}{
		{[2]int{math.MaxInt, 1}, [2]int{0, math.MaxInt - 1}, true},
		{[2]int{math.MaxInt, 0}, [2]int{1, 0}, false},
		{[2]int{0, math.MaxInt}, [2]int{0, 1}, false},
		{[2]int{0, math.MinInt}, [2]int{0, -1}, false},
		{[2]int{math.MaxInt, math.MinInt}, [2]int{math.MinInt, math.MaxInt}, true},
	} {
		rows := []api.Row{{Key: []int{0}, M: x.first[:]}, {Key: []int{1}, M: x.second[:]}}
		if got := rec.Sound(s, rows); got != x.want {
			t.Errorf("P102: Sound of %v: %v", rows, got)
		}
	}
}

func TestSoundByGreatNumbersP102(t *testing.T) {
	d := rand.New(rand.NewSource(4))
	s := api.Schema{Cards: []int{1}, Measures: 1}
	seen := map[bool]int{}
	for range 5000 {
		var list []int
		above, below := new(big.Int), new(big.Int)
		for range d.Intn(8) {
			m := someNumber(d) >> d.Intn(3)
			list = append(list, m)
			if m > 0 {
				above.Add(above, big.NewInt(int64(m)))
			} else {
				below.Add(below, big.NewInt(int64(m)))
			}
		}
		want := above.IsInt64() && below.IsInt64()
		seen[want]++
		if got := rec.Sound(s, oneMeasure(list...)); got != want {
			t.Errorf("P102: Sound of %v: %v", list, got)
		}
	}
	if seen[true] < 500 || seen[false] < 500 {
		t.Errorf("the die falls to one side: %v", seen)
	}
}
