// Package chunk is layer 2, the chunks of hashes and sets of them: see
// shared/doc/02-chunk.md.
package chunk

import (
	"iter"
	"math/bits"

	"quickset/api"
)

// Bits is a set of numbers 0 to 31.
type Bits uint32

// Wide is how many numbers a set may have.
const Wide = 32

// size is the number of bits of a chunk; Wide is two to the power of it.
const size = 5

// At returns the chunk of a hash at a level, 0 for a level that a hash does not
// have. The last level has only four bits, because 64 is no multiple of five.
func At(hash uint64, level int) int {
	if level < 0 || level >= api.Levels {
		return 0
	}
	return int((hash >> (size * level)) % Wide)
}

// Has reports whether i is in the set.
func (b Bits) Has(i int) bool {
	return b&only(i) != 0
}

// Count returns the number of elements.
func (b Bits) Count() int {
	return bits.OnesCount32(uint32(b))
}

// Rank returns the number of elements less than i.
func (b Bits) Rank(i int) int {
	if i <= 0 {
		return 0
	}
	if i >= Wide {
		return b.Count()
	}
	return (b & (only(i) - 1)).Count()
}

// Nth returns the element that has k smaller ones, or false if there is none.
func (b Bits) Nth(k int) (int, bool) {
	for i := range b.All() {
		if b.Rank(i) == k {
			return i, true
		}
	}
	return 0, false
}

// With returns the set with i added.
func (b Bits) With(i int) Bits {
	return b | only(i)
}

// Without returns the set with i removed.
func (b Bits) Without(i int) Bits {
	return b &^ only(i)
}

// All yields the elements in increasing order. It changes nothing that it has
// captured, so that it can be ranged over any number of times.
func (b Bits) All() iter.Seq[int] {
	return func(yield func(int) bool) {
		for i := range Wide {
			if b.Has(i) && !yield(i) {
				return
			}
		}
	}
}

// only returns the set of i alone, the empty set if i cannot be an element.
func only(i int) Bits {
	if i < 0 || i >= Wide {
		return 0
	}
	return 1 << i
}
