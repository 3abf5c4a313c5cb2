// Package rec: facts as bytes. See doc/01-rec.md.
package rec

import (
	"math"

	"hypercube/api"
)

// Check tells whether a schema is within the numbers of package api.
func Check(s api.Schema) bool {
	if !within(len(s.Cards), 1, api.MaxDims) || !within(s.Measures, 0, api.MaxMeasures) {
		return false
	}
	for _, card := range s.Cards {
		if !within(card, 1, api.MaxCard) {
			return false
		}
	}
	return true
}

// Right tells whether a row is one of a schema's.
func Right(s api.Schema, r api.Row) bool {
	if len(r.Key) != len(s.Cards) || len(r.M) != s.Measures {
		return false
	}
	for i, v := range r.Key {
		// Not held against the card less 1: any card may come in, and there is no int below the least one.
		if v < 0 || v >= s.Cards[i] {
			return false
		}
	}
	return true
}

// Encode answers the bytes of rows. It refuses what it may not be handed by no bytes: they would tell other facts.
func Encode(s api.Schema, rows []api.Row) []byte {
	if len(rows) > api.MaxRows || !allRight(s, rows) {
		return nil
	}
	b := make([]byte, size(s, len(rows)))
	rest := putHead(b, s, len(rows))
	for _, r := range rows {
		rest = putAll[uint8](rest, r.Key)
		rest = putAll[uint64](rest, r.M)
	}
	return b
}

// Decode answers what Encode was handed to make b; BadInput, if it makes no such bytes.
func Decode(b []byte) (s api.Schema, rows []api.Row, e api.Errno) {
	s, count, ok := takeHead(b)
	if !ok || len(b) != size(s, count) {
		return api.Schema{}, nil, api.BadInput
	}
	rest := b[size(s, 0):]
	rows = make([]api.Row, count)
	for i := range rows {
		rows[i].Key, rest = takeAll[uint8](rest, len(s.Cards))
		rows[i].M, rest = takeAll[uint64](rest, s.Measures)
		if !Right(s, rows[i]) {
			return api.Schema{}, nil, api.BadInput
		}
	}
	return s, rows, api.OK
}

// Sound tells whether each sum that any of the rows can come to, in any order, is an int.
func Sound(s api.Schema, rows []api.Row) bool {
	if !allRight(s, rows) {
		return false
	}
	for m := range s.Measures {
		if !sumsFit(rows, m) {
			return false
		}
	}
	return true
}

func within(n, low, high int) bool { return low <= n && n <= high }

// allRight tells whether rows are of a schema that may be.
func allRight(s api.Schema, rows []api.Row) bool {
	if !Check(s) {
		return false
	}
	for _, r := range rows {
		if !Right(s, r) {
			return false
		}
	}
	return true
}

// sumsFit asks ahead of each addition: a sum that has gone round can't be told from one that has not.
func sumsFit(rows []api.Row, m int) bool {
	above, below := 0, 0
	for _, r := range rows {
		up, down := max(r.M[m], 0), min(r.M[m], 0)
		if above > math.MaxInt-up || below < math.MinInt-down {
			return false
		}
		above += up
		below += down
	}
	return true
}
