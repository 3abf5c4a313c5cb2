package rec

import (
	"math/bits"

	"hypercube/api"
)

// mark stands ahead of all facts.
const mark = "CUB1"

// longestHead is how many bytes may stand ahead of the rows.
const longestHead = len(mark) + 1 + api.MaxDims + 1 + 2

// word is a number as it stands in bytes: its type says how many it takes.
type word interface{ uint8 | uint16 | uint64 }

func width[N word]() int { return bits.Len64(uint64(^N(0))) / 8 }

// size is how many bytes so many rows make; of none: where the first one would stand.
func size(s api.Schema, rows int) int {
	dims := len(s.Cards)
	head := len(mark) + width[uint8]()*(1+dims+1) + width[uint16]()
	row := width[uint8]()*dims + width[uint64]()*s.Measures
	return head + rows*row
}

// putHead answers the rest of b, where the rows stand.
func putHead(b []byte, s api.Schema, rows int) []byte {
	rest := b[copy(b, mark):]
	rest = put(rest, uint8(len(s.Cards)))
	rest = putAll[uint8](rest, s.Cards)
	rest = put(rest, uint8(s.Measures))
	return put(rest, uint16(rows))
}

// takeHead reads a copy that has zeros where b is too short, so that no read runs out; its caller holds b's length against what the head says.
func takeHead(b []byte) (s api.Schema, rows int, ok bool) {
	var head [longestHead]byte
	copy(head[:], b)
	if string(head[:len(mark)]) != mark {
		return api.Schema{}, 0, false
	}
	dims, rest := take[uint8](head[len(mark):])
	if dims > api.MaxDims {
		return api.Schema{}, 0, false
	}
	s.Cards, rest = takeAll[uint8](rest, dims)
	s.Measures, rest = take[uint8](rest)
	rows, _ = take[uint16](rest)
	if !Check(s) || rows > api.MaxRows {
		return api.Schema{}, 0, false
	}
	return s, rows, true
}

// put writes n, the highest byte first, and answers what of b is behind it.
func put[N word](b []byte, n N) []byte {
	last := width[N]() - 1
	for i := range last + 1 {
		b[i] = byte(n >> (8 * (last - i)))
	}
	return b[last+1:]
}

// putAll writes each number by its two's complement, as the conversion to N does.
func putAll[N word](b []byte, list []int) []byte {
	for _, n := range list {
		b = put(b, N(n))
	}
	return b
}

// take reads what put wrote, and answers what of b is behind it.
func take[N word](b []byte) (int, []byte) {
	last := width[N]() - 1
	var n N
	for i, v := range b[:last+1] {
		n |= N(v) << (8 * (last - i))
	}
	return int(n), b[last+1:]
}

// takeAll makes a list of its own memory: no two of one answer may share any.
func takeAll[N word](b []byte, count int) ([]int, []byte) {
	list := make([]int, count)
	for i := range list {
		list[i], b = take[N](b)
	}
	return list, b
}
