package cell

import (
	"math/bits"
	"slices"

	"hypercube/api"
	"hypercube/rec"
)

// Encode answers the bytes of a cuboid. It refuses what is none by no bytes: they would tell other cells.
func Encode(set int, cells []api.Cell) []byte {
	if !within(set, 0, full(api.MaxDims)) {
		return nil
	}
	s := widest(set, cells)
	if !isCuboid(s, cells) {
		return nil
	}
	setAt, manyAt := headFields()
	f := fieldsOf(s)
	b := make([]byte, manyAt.end()+len(cells)*f.size())
	setAt.put(b, set)
	manyAt.put(b, len(cells))
	for i, c := range cells {
		f.put(b[manyAt.end()+i*f.size():], c)
	}
	return b
}

// Decode answers what Encode was handed to make b; false, if no cuboid of s makes such bytes.
func Decode(s api.Schema, b []byte) (set int, cells []api.Cell, is bool) {
	setAt, manyAt := headFields()
	if !rec.Check(s) || len(b) < manyAt.end() {
		return 0, nil, false
	}
	set = setAt.get(b, 0)
	if !within(set, 0, full(len(s.Cards))) {
		return 0, nil, false
	}
	own := api.Schema{Cards: values(s.Cards, full(len(s.Cards)), set), Measures: s.Measures}
	f := fieldsOf(own)
	rest := b[manyAt.end():]
	if len(rest) != manyAt.get(b, 0)*f.size() {
		return 0, nil, false
	}
	for piece := range slices.Chunk(rest, f.size()) {
		cells = append(cells, f.take(piece))
	}
	if !isCuboid(own, cells) || !minWithinMax(cells) {
		return 0, nil, false
	}
	return set, cells, true
}

// widest is the schema, of the set's dimensions alone, with the greatest cards: Encode is told none.
func widest(set int, cells []api.Cell) api.Schema {
	s := api.Schema{Cards: slices.Repeat([]int{api.MaxCard}, bits.OnesCount(uint(set)))}
	if len(cells) > 0 {
		s.Measures = len(cells[0].Sum)
	}
	return s
}

// isCuboid tells whether cells may stand in bytes; s is of their own dimensions alone.
func isCuboid(s api.Schema, cells []api.Cell) bool {
	if len(cells) > api.MaxRows || !even(cells...) {
		return false
	}
	for i, c := range cells {
		if !rec.Right(s, api.Row{Key: c.Key, M: c.Sum}) || !within(c.Count, 1, api.MaxRows) {
			return false
		}
		if i > 0 && Less(cells[i-1].Key, c.Key) >= 0 {
			return false
		}
	}
	return true
}

// minWithinMax tells whether no Min is greater than its Max; cells are even.
func minWithinMax(cells []api.Cell) bool {
	for _, c := range cells {
		for m := range c.Min {
			if c.Min[m] > c.Max[m] {
				return false
			}
		}
	}
	return true
}

// cellFields are where a cell's numbers stand in its piece of a cuboid's bytes.
type cellFields struct {
	key   field[uint8]
	count field[uint16]
	told  field[uint64]
}

// perMeasure is how many numbers stand for a measure: sum, least, greatest.
const perMeasure = 3

// headFields are where the set stands, and how many cells there are, ahead of them all.
func headFields() (set field[uint8], many field[uint16]) {
	set = field[uint8]{at: 0, count: 1}
	return set, field[uint16]{at: set.end(), count: 1}
}

func fieldsOf(s api.Schema) cellFields {
	key := field[uint8]{at: 0, count: len(s.Cards)}
	count := field[uint16]{at: key.end(), count: 1}
	return cellFields{key, count, field[uint64]{at: count.end(), count: perMeasure * s.Measures}}
}

func (f cellFields) size() int { return f.told.end() }

func (f cellFields) put(piece []byte, c api.Cell) {
	f.key.put(piece, c.Key...)
	f.count.put(piece, c.Count)
	var told []int
	for m := range c.Sum {
		told = append(told, c.Sum[m], c.Min[m], c.Max[m])
	}
	f.told.put(piece, told...)
}

func (f cellFields) take(piece []byte) api.Cell {
	c := api.Cell{Key: slices.Collect(f.key.all(piece)), Count: f.count.get(piece, 0)}
	told := slices.Collect(f.told.all(piece))
	for three := range slices.Chunk(told, perMeasure) {
		c.Sum = append(c.Sum, three[0])
		c.Min = append(c.Min, three[1])
		c.Max = append(c.Max, three[2])
	}
	return c
}
