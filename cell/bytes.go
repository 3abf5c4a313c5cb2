package cell

import (
	"iter"
	"math/bits"
)

// word is a number as it stands in bytes: its type says how many it takes.
type word interface{ uint8 | uint16 | uint64 }

// field is where numbers of one width stand in bytes, one behind the other.
type field[N word] struct{ at, count int }

func (f field[N]) width() int { return bits.Len64(uint64(^N(0))) / 8 }

func (f field[N]) end() int { return f.piece(f.count) }

// piece is where number i begins.
func (f field[N]) piece(i int) int { return f.at + i*f.width() }

// put writes each number by its two's complement, as the conversion to N does.
func (f field[N]) put(b []byte, list ...int) {
	for i, n := range list {
		for k := range f.width() {
			b[f.piece(i)+k] = byte(N(n) >> f.shift(k))
		}
	}
}

// get answers number i as put was handed it.
func (f field[N]) get(b []byte, i int) int {
	var n N
	for k := range f.width() {
		n |= N(b[f.piece(i)+k]) << f.shift(k)
	}
	return int(n)
}

// shift is by how much byte k of a number is above the lowest one: the highest stands first.
func (f field[N]) shift(k int) int { return 8 * (f.width() - 1 - k) }

// all tells the numbers as they stand.
func (f field[N]) all(b []byte) iter.Seq[int] {
	return func(yield func(int) bool) {
		for i := range f.count {
			if !yield(f.get(b, i)) {
				return
			}
		}
	}
}
