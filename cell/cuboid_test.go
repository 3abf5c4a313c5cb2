package cell_test

import (
	"bytes"
	"encoding/binary"
	"math"
	"math/rand"
	"slices"
	"strings"
	"testing"

	"hypercube/api"
	"hypercube/cell"
)

// told is P202's Encode once more, in other words.
func told(set int, cells []api.Cell) []byte {
	b := binary.BigEndian.AppendUint16([]byte{byte(set)}, uint16(len(cells)))
	for _, c := range cells {
		for _, v := range c.Key {
			b = append(b, byte(v))
		}
		b = binary.BigEndian.AppendUint16(b, uint16(c.Count))
		for m := range c.Sum {
			for _, n := range []int{c.Sum[m], c.Min[m], c.Max[m]} {
				b = binary.BigEndian.AppendUint64(b, uint64(n))
			}
		}
	}
	return b
}

// fits tells by bytes alone whether they are a cuboid's of a schema that is right.
func fits(s api.Schema, b []byte) bool {
	if len(b) < 3 || int(b[0]) >= 1<<len(s.Cards) {
		return false
	}
	list := ofSet(s.Cards, int(b[0]))
	count, body := int(binary.BigEndian.Uint16(b[1:])), b[3:]
	piece := len(list) + 2 + 24*s.Measures
	if count > 300 || len(body) != count*piece {
		return false
	}
	var last []byte
	for i := range count {
		c := body[i*piece : (i+1)*piece]
		key := c[:len(list)]
		if i > 0 && bytes.Compare(last, key) >= 0 {
			return false
		}
		last = key
		for j, v := range key {
			if int(v) >= list[j] {
				return false
			}
		}
		if n := binary.BigEndian.Uint16(c[len(list):]); n < 1 || n > 300 {
			return false
		}
		for m := range s.Measures {
			at := c[len(list)+2+24*m:]
			if int64(binary.BigEndian.Uint64(at[8:])) > int64(binary.BigEndian.Uint64(at[16:])) {
				return false
			}
		}
	}
	return true
}

// mustJudge holds Decode of b against fits, and what it takes against b.
func mustJudge(t *testing.T, s api.Schema, b []byte) {
	t.Helper()
	set, cells, is := cell.Decode(s, b)
	if is != fits(s, b) {
		t.Fatalf("P202: Decode of %v, %q: %v", s, b, is)
	}
	if is && (set != int(b[0]) || !bytes.Equal(told(set, cells), b) || !bytes.Equal(cell.Encode(set, cells), b)) {
		t.Fatalf("P202: Decode of %v, %q: %d, %v", s, b, set, cells)
	}
	if !is && (set != 0 || len(cells) > 0) {
		t.Fatalf("P4: Decode of %v, %q: %d, %v", s, b, set, cells)
	}
}

// cuboid throws a set and its cells.
func cuboid(d *rand.Rand, list []int, measures, rows int) (set int, cells []api.Cell) {
	set = d.Intn(1 << len(list))
	return set, groupBy(facts(d, list, measures, rows), set)
}

// numbered are so many cells of all four dimensions, rising.
func numbered(count int) []api.Cell {
	cells := make([]api.Cell, count)
	for i := range cells {
		cells[i] = api.Cell{Key: []int{0, i >> 8, i >> 4 & 15, i & 15}, Count: 1 + i%300}
	}
	return cells
}

func TestEncodeP202(t *testing.T) {
	for _, x := range []struct {
		set   int
		cells []api.Cell
		want  string
	}{
		{0, nil, "\x00\x00\x00"},
		{15, []api.Cell{}, "\x0f\x00\x00"},
		{0, []api.Cell{{Count: 300}}, "\x00\x00\x01\x01\x2c"},
		{8, []api.Cell{{Key: []int{0}, Count: 1}, {Key: []int{15}, Count: 256}}, "\x08\x00\x02\x00\x00\x01\x0f\x01\x00"},
		{5, []api.Cell{{Key: []int{1, 2}, Count: 3}, {Key: []int{1, 3}, Count: 2}, {Key: []int{2, 0}, Count: 1}}, "\x05\x00\x03\x01\x02\x00\x03\x01\x03\x00\x02\x02\x00\x00\x01"},
		{
			15, []api.Cell{{Key: []int{1, 2, 3, 4}, Count: 2, Sum: []int{-1, 258}, Min: []int{math.MinInt, 1}, Max: []int{math.MaxInt, 1 << 32}}},
			"\x0f\x00\x01\x01\x02\x03\x04\x00\x02" +
				"\xff\xff\xff\xff\xff\xff\xff\xff\x80\x00\x00\x00\x00\x00\x00\x00\x7f\xff\xff\xff\xff\xff\xff\xff" +
				"\x00\x00\x00\x00\x00\x00\x01\x02\x00\x00\x00\x00\x00\x00\x00\x01\x00\x00\x00\x01\x00\x00\x00\x00",
		},
	} {
		if got := string(cell.Encode(x.set, x.cells)); got != x.want {
			t.Errorf("P202: Encode of %d, %v: %q, not %q", x.set, x.cells, got, x.want)
		}
	}
}

func TestMostCellsP202(t *testing.T) {
	s := api.Schema{Cards: []int{16, 16, 16, 16}}
	for _, count := range []int{255, 256, 299, 300} {
		b := cell.Encode(15, numbered(count))
		if !bytes.Equal(b, told(15, numbered(count))) {
			t.Errorf("P202: Encode of %d cells: %d bytes", count, len(b))
		}
		mustJudge(t, s, b)
	}
	for _, count := range []int{301, 302, 4096} {
		if b := cell.Encode(15, numbered(count)); len(b) > 0 {
			t.Errorf("P202: Encode of %d cells: %d bytes", count, len(b))
		}
		mustJudge(t, s, told(15, numbered(count)))
	}
}

func TestThereAndBackP202(t *testing.T) {
	d := rand.New(rand.NewSource(3))
	for range 2000 {
		s := api.Schema{Cards: cards(d), Measures: d.Intn(3)}
		set, cells := cuboid(d, s.Cards, s.Measures, d.Intn(301))
		b := cell.Encode(set, cells)
		if !bytes.Equal(b, told(set, cells)) {
			t.Fatalf("P202: Encode of %d, %v: %q", set, cells, b)
		}
		set2, back, is := cell.Decode(s, b)
		if !is || set2 != set || !same(back, cells) {
			t.Fatalf("P202: %d, %v: %d, %v, %v", set, cells, set2, back, is)
		}
	}
}

func TestDecodeSpoiledP202(t *testing.T) {
	d := rand.New(rand.NewSource(4))
	for range 60 {
		s := api.Schema{Cards: cards(d), Measures: d.Intn(3)}
		set, cells := cuboid(d, s.Cards, s.Measures, d.Intn(5))
		b := cell.Encode(set, cells)
		for i := range b {
			mustJudge(t, s, b[:i])
			for v := range 256 {
				c := bytes.Clone(b)
				c[i] = byte(v)
				mustJudge(t, s, c)
			}
			mustJudge(t, s, slices.Delete(bytes.Clone(b), i, i+1))
			mustJudge(t, s, slices.Insert(bytes.Clone(b), i, 1))
		}
		for i := 1; i < len(b); i++ {
			c := bytes.Clone(b)
			c[i-1], c[i] = c[i], c[i-1]
			mustJudge(t, s, c)
		}
		mustJudge(t, s, append(bytes.Clone(b), 0))
	}
}

func TestDecodeWrongP202(t *testing.T) {
	none := api.Schema{Cards: []int{3, 16}}
	one := api.Schema{Cards: []int{3, 16}, Measures: 1}
	eight := func(bytes string) string { return strings.Repeat("\x00", 8-len(bytes)) + bytes }
	below := strings.Repeat("\xff", 8)
	for _, x := range []struct {
		what string
		s    api.Schema
		b    string
		want bool
	}{
		{"no bytes", none, "", false},
		{"a part of a head", none, "\x01\x00", false},
		{"no cells", none, "\x03\x00\x00", true},
		{"no cells of a set that is not", none, "\x04\x00\x00", false},
		{"a set of 16", api.Schema{Cards: []int{1, 1, 1, 1}}, "\x10\x00\x00", false},
		{"a set of 255", api.Schema{Cards: []int{1, 1, 1, 1}}, "\xff\x00\x00", false},
		{"of no dimensions", none, "\x00\x00\x01\x00\x05", true},
		{"of no dimensions twice", none, "\x00\x00\x02\x00\x05\x00\x05", false},
		{"the last values", none, "\x03\x00\x01\x02\x0f\x00\x01", true},
		{"a value of 3 of 3", none, "\x01\x00\x01\x03\x00\x01", false},
		{"a value of 3 of 16", none, "\x02\x00\x01\x03\x00\x01", true},
		{"a value of 16 of 16", none, "\x02\x00\x01\x10\x00\x01", false},
		{"a second value of 16", none, "\x03\x00\x01\x02\x10\x00\x01", false},
		{"counted 0", none, "\x01\x00\x01\x02\x00\x00", false},
		{"counted 300", none, "\x01\x00\x01\x02\x01\x2c", true},
		{"counted 301", none, "\x01\x00\x01\x02\x01\x2d", false},
		{"counted 65535", none, "\x01\x00\x01\x02\xff\xff", false},
		{"rising", none, "\x01\x00\x02\x01\x00\x01\x02\x00\x01", true},
		{"one key twice", none, "\x01\x00\x02\x01\x00\x01\x01\x00\x01", false},
		{"falling", none, "\x01\x00\x02\x02\x00\x01\x01\x00\x01", false},
		{"falling behind", none, "\x01\x00\x03\x00\x00\x01\x02\x00\x01\x01\x00\x01", false},
		{"rising first by the first", none, "\x03\x00\x02\x01\x05\x00\x01\x02\x04\x00\x01", true},
		{"a cell too few", none, "\x01\x00\x02\x01\x00\x01", false},
		{"a cell too many", none, "\x01\x00\x01\x01\x00\x01\x02\x00\x01", false},
		{"cells that are not said", none, "\x01\x00\x00\x01\x00\x01", false},
		{"cells counted lowest", none, "\x01\x01\x00\x01\x00\x01", false},
		{"a byte more", none, "\x01\x00\x01\x01\x00\x01\x00", false},
		{"one measure", one, "\x00\x00\x01\x00\x01" + eight("\x07") + eight("\x07") + eight("\x07"), true},
		{"a least below 0", one, "\x00\x00\x01\x00\x02" + eight("\x07") + below + eight("\x08"), true},
		{"a greatest below the least", one, "\x00\x00\x01\x00\x01" + eight("\x07") + eight("\x07") + eight("\x06"), false},
		{"a greatest below 0", one, "\x00\x00\x01\x00\x02" + eight("\x07") + eight("\x08") + below, false},
		{"a sum beyond both", one, "\x00\x00\x01\x00\x02" + eight("\x7f") + eight("\x01") + eight("\x02"), true},
		{"a measure too many", none, "\x00\x00\x01\x00\x01" + eight("\x07") + eight("\x07") + eight("\x07"), false},
		{"a measure too few", one, "\x00\x00\x01\x00\x01", false},
		{"a measure cut off", one, "\x00\x00\x01\x00\x01" + eight("\x07") + eight("\x07") + eight("\x07")[:7], false},
		{"no cells, a measure", one, "\x00\x00\x00", true},
	} {
		set, cells, is := cell.Decode(x.s, []byte(x.b))
		if is != x.want || !is && (set != 0 || len(cells) > 0) {
			t.Errorf("P202: Decode of %s, %q: %d, %v, %v", x.what, x.b, set, cells, is)
		}
		mustJudge(t, x.s, []byte(x.b))
	}
}

// Whatever schema rec.Check refuses, no bytes are of it.
func TestDecodeOfNoSchemaP202(t *testing.T) {
	for i, s := range []api.Schema{
		{}, {Cards: []int{0}}, {Cards: []int{17}}, {Cards: []int{-1}}, {Cards: []int{1, 1, 1, 1, 1}}, {Cards: make([]int, 100)},
		{Cards: []int{2}, Measures: -1}, {Cards: []int{2}, Measures: 3}, {Cards: []int{2}, Measures: math.MaxInt}, {Cards: []int{2}, Measures: math.MinInt},
	} {
		for _, b := range []string{"", "\x00\x00\x00", "\x01\x00\x00", "\x00\x00\x01\x00\x01", "\x01\x00\x01\x00\x00\x01"} {
			if set, cells, is := cell.Decode(s, []byte(b)); is || set != 0 || len(cells) > 0 {
				t.Errorf("P202: Decode of schema %d, %q: %d, %v, %v", i, b, set, cells, is)
			}
		}
	}
}

// What is no cuboid makes no bytes: they would be another one's.
func TestEncodeRefusesP9(t *testing.T) {
	one := func(count int, key ...int) api.Cell { return api.Cell{Key: key, Count: count} }
	uneven := api.Cell{Key: []int{2}, Count: 1, Sum: []int{1}, Min: []int{1}, Max: []int{1}}
	for _, x := range []struct {
		what  string
		set   int
		cells []api.Cell
	}{
		{"set -1", -1, nil}, {"set 16", 16, nil}, {"set 257", 257, []api.Cell{one(1, 0)}}, {"the greatest set", math.MaxInt, nil}, {"the least set", math.MinInt, nil},
		{"a key too short", 3, []api.Cell{one(1, 0)}}, {"a key too long", 1, []api.Cell{one(1, 0, 0)}}, {"a key of no dimensions", 0, []api.Cell{one(1, 0)}},
		{"a value of 16", 1, []api.Cell{one(1, 16)}}, {"a value of -1", 1, []api.Cell{one(1, -1)}}, {"a value of 256", 2, []api.Cell{one(1, 256)}}, {"a second key's value of 16", 2, []api.Cell{one(1, 0), one(1, 16)}},
		{"counted 0", 1, []api.Cell{one(0, 0)}}, {"counted -1", 1, []api.Cell{one(-1, 0)}}, {"counted 301", 1, []api.Cell{one(301, 0)}}, {"counted 65537", 1, []api.Cell{one(65537, 0)}},
		{"one key twice", 1, []api.Cell{one(1, 0), one(1, 0)}}, {"no dimensions twice", 0, []api.Cell{one(1), one(1)}}, {"falling keys", 1, []api.Cell{one(1, 1), one(1, 0)}},
		{"other measures", 1, []api.Cell{one(1, 1), uneven}}, {"no measures behind one", 1, []api.Cell{uneven, one(1, 3)}},
		{"no Max", 1, []api.Cell{{Key: []int{0}, Count: 1, Sum: []int{1}, Min: []int{1}}}}, {"no Min", 1, []api.Cell{{Key: []int{0}, Count: 1, Sum: []int{1}, Max: []int{1}}}}, {"no Sum", 1, []api.Cell{{Key: []int{0}, Count: 1, Min: []int{1}, Max: []int{1}}}},
	} {
		if b := cell.Encode(x.set, x.cells); len(b) > 0 {
			t.Errorf("P9: Encode of %s: %q", x.what, b)
		}
	}
}

func FuzzDecodeP202(f *testing.F) {
	f.Add(byte(2), byte(3), byte(16), byte(0), []byte("\x03\x00\x01\x02\x0f\x00\x01"))
	f.Add(byte(1), byte(4), byte(1), byte(0), []byte("\x01\x00\x02\x01\x00\x01\x02\x00\x01"))
	f.Add(byte(2), byte(2), byte(2), byte(1), []byte("\x00\x00\x01\x00\x01\x00\x00\x00\x00\x00\x00\x00\x07\x00\x00\x00\x00\x00\x00\x00\x07\x00\x00\x00\x00\x00\x00\x00\x07"))
	f.Fuzz(func(t *testing.T, dims, first, others, measures byte, b []byte) {
		s := api.Schema{Cards: []int{1 + int(first%16)}, Measures: int(measures % 3)}
		for range dims % 4 {
			s.Cards = append(s.Cards, 1+int(others%16))
		}
		mustJudge(t, s, b)
	})
}
