package chunk_test

import (
	"math"
	"slices"
	"testing"

	"quickset/api"
	"quickset/chunk"
)

// outside are numbers that are neither chunks nor levels.
var outside = []int{-1, -2, -31, -32, -64, 32, 33, 40, 63, 64, 65, 99, 1 << 20, 1<<32 + 3, math.MinInt, math.MinInt + 1, math.MaxInt}

// samples are sets with none, some and all elements, at both ends and between.
var samples = []chunk.Bits{0, 1, 2, 1 << 31, 1<<31 | 1, 1<<2 | 1<<9, 0x55555555, 0xaaaaaaaa, 0x0000ffff, 0xffff0000, 0xdeadbeef, 0x7fffffff, 0xffffffff}

// elements lists a set by asking each bit, to hold the other calls against.
func elements(b chunk.Bits) []int {
	var l []int
	for i := range 32 {
		if uint32(b)/(1<<i)%2 == 1 {
			l = append(l, i)
		}
	}
	return l
}

func below(l []int, i int) int {
	n := 0
	for _, e := range l {
		if e < i {
			n++
		}
	}
	return n
}

// asked are the numbers that each call is tried with.
func asked() []int {
	l := slices.Clone(outside)
	for i := range 32 {
		l = append(l, i)
	}
	return l
}

// P2.1: the examples of the document, and the lowest chunk beside them.
func TestAtExamples(t *testing.T) {
	if chunk.At(1000, 0) != 8 || chunk.At(1000, 1) != 31 || chunk.At(1000, 2) != 0 {
		t.Error(chunk.At(1000, 0), chunk.At(1000, 1), chunk.At(1000, 2))
	}
}

// P2.1: each level has its own five bits, lowest first, and the last one four.
func TestAtEachLevel(t *testing.T) {
	for bit := range 64 {
		for level := range api.Levels {
			want := 0
			if bit/5 == level {
				want = 1 << (bit % 5)
			}
			if got := chunk.At(1<<bit, level); got != want {
				t.Errorf("bit %d, level %d: got %d, want %d", bit, level, got, want)
			}
		}
	}
}

// P2.1: the last level is all that is left of a hash, 0 to 15.
func TestAtLastLevel(t *testing.T) {
	if got := chunk.At(math.MaxUint64, 11); got != 31 {
		t.Errorf("level 11: got %d", got)
	}
	if got := chunk.At(math.MaxUint64, 12); got != 15 {
		t.Errorf("level 12: got %d", got)
	}
	if got := chunk.At(1<<63, 12); got != 8 {
		t.Errorf("highest bit: got %d", got)
	}
}

// P2.1: the chunks of all levels make up the hash.
func TestAtMakesUpTheHash(t *testing.T) {
	for _, hash := range []uint64{0, 1, 1000, 0x0123456789abcdef, 0xa129ca6149be45e5, math.MaxUint64} {
		var got uint64
		for level := api.Levels - 1; level >= 0; level-- {
			got = got<<5 | uint64(chunk.At(hash, level))
		}
		if got != hash {
			t.Errorf("got %x, want %x", got, hash)
		}
	}
}

// P2.1: any other level is 0, though the hash has every bit.
func TestAtOtherLevels(t *testing.T) {
	for _, level := range append([]int{13, 14, 25, 26}, outside...) {
		if got := chunk.At(math.MaxUint64, level); got != 0 {
			t.Errorf("level %d: got %d", level, got)
		}
	}
}

// P2.2: there may be as many elements as there are chunks.
func TestWide(t *testing.T) {
	if chunk.Wide != 32 {
		t.Error(chunk.Wide)
	}
}

// P2.2: an element is a bit that is set.
func TestHas(t *testing.T) {
	for _, b := range samples {
		for _, i := range asked() {
			if got := b.Has(i); got != slices.Contains(elements(b), i) {
				t.Errorf("%x has %d: got %v", b, i, got)
			}
		}
	}
}

// P2.2: the number of elements.
func TestCount(t *testing.T) {
	for _, b := range samples {
		if got := b.Count(); got != len(elements(b)) {
			t.Errorf("%x: got %d", b, got)
		}
	}
}

// P2.2: elements less than i, for an i beyond the elements too.
func TestRank(t *testing.T) {
	if got := chunk.Bits(1<<2 | 1<<9).Rank(9); got != 1 {
		t.Errorf("the example: got %d", got)
	}
	for _, b := range samples {
		for _, i := range asked() {
			if got := b.Rank(i); got != below(elements(b), i) {
				t.Errorf("%x, rank of %d: got %d, want %d", b, i, got, below(elements(b), i))
			}
		}
	}
}

// P2.2: the element at each place, and 0 and false where there is none.
func TestNth(t *testing.T) {
	for _, b := range samples {
		l := elements(b)
		for _, k := range asked() {
			want, is := 0, k >= 0 && k < len(l)
			if is {
				want = l[k]
			}
			if got, ok := b.Nth(k); got != want || ok != is {
				t.Errorf("%x, place %d: got %d, %v, want %d, %v", b, k, got, ok, want, is)
			}
		}
	}
}

// P2.2: adding touches nothing else, and nothing at all outside 0 to 31.
func TestWith(t *testing.T) {
	for _, b := range samples {
		for _, i := range asked() {
			want := elements(b)
			if i >= 0 && i < 32 && !slices.Contains(want, i) {
				want = append(want, i)
				slices.Sort(want)
			}
			if got := b.With(i); !slices.Equal(elements(got), want) {
				t.Errorf("%x with %d: got %x", b, i, got)
			}
		}
	}
}

// P2.2: removing touches nothing else, and nothing at all outside 0 to 31.
func TestWithout(t *testing.T) {
	for _, b := range samples {
		for _, i := range asked() {
			want := slices.DeleteFunc(elements(b), func(e int) bool { return e == i })
			if got := b.Without(i); !slices.Equal(elements(got), want) {
				t.Errorf("%x without %d: got %x", b, i, got)
			}
		}
	}
}

// Values: the set that a change starts from stays as it was.
func TestChangesLeaveTheSet(t *testing.T) {
	b := chunk.Bits(6)
	b.With(5)
	b.Without(1)
	if b != 6 {
		t.Errorf("got %x", b)
	}
}

// P2.2: all elements, in increasing order.
func TestAll(t *testing.T) {
	for _, b := range samples {
		if got := slices.Collect(b.All()); !slices.Equal(got, elements(b)) {
			t.Errorf("%x: got %v", b, got)
		}
	}
}

// P2.2: whoever ranges over the elements may stop after any of them.
func TestAllStops(t *testing.T) {
	for _, b := range samples {
		for stop := range b.Count() {
			var got []int
			for i := range b.All() {
				got = append(got, i)
				if len(got) > stop {
					break
				}
			}
			if !slices.Equal(got, elements(b)[:stop+1]) {
				t.Errorf("%x, stopped at %d: got %v", b, stop, got)
			}
		}
	}
}

// P2: the same elements come each time, of the set as it was.
func TestAllAgain(t *testing.T) {
	b := chunk.Bits(1<<2 | 1<<9 | 1<<31)
	all := b.All()
	b = b.Without(9)
	for range 3 {
		if got := slices.Collect(all); !slices.Equal(got, []int{2, 9, 31}) {
			t.Errorf("got %v", got)
		}
	}
}
