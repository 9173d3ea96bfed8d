package sip_test

import (
	"bytes"
	"strings"
	"testing"

	"quickset/sip"
)

// The tables below were computed by another implementation of SipHash-2-4
// (OpenSSL's), so that they do not repeat a mistake of this one. The strings
// count up from 00, modulo 256, unless a table says otherwise.

// countingSums holds the sums of the lengths 0 to 63 with the key 00 to 0f.
var countingSums = []uint64{
	0x726fdb47dd0e0e31, 0x74f839c593dc67fd, 0x0d6c8009d9a94f5a, 0x85676696d7fb7e2d,
	0xcf2794e0277187b7, 0x18765564cd99a68d, 0xcbc9466e58fee3ce, 0xab0200f58b01d137,
	0x93f5f5799a932462, 0x9e0082df0ba9e4b0, 0x7a5dbbc594ddb9f3, 0xf4b32f46226bada7,
	0x751e8fbc860ee5fb, 0x14ea5627c0843d90, 0xf723ca908e7af2ee, 0xa129ca6149be45e5,
	0x3f2acc7f57c29bdb, 0x699ae9f52cbe4794, 0x4bc1b3f0968dd39c, 0xbb6dc91da77961bd,
	0xbed65cf21aa2ee98, 0xd0f2cbb02e3b67c7, 0x93536795e3a33e88, 0xa80c038ccd5ccec8,
	0xb8ad50c6f649af94, 0xbce192de8a85b8ea, 0x17d835b85bbb15f3, 0x2f2e6163076bcfad,
	0xde4daaaca71dc9a5, 0xa6a2506687956571, 0xad87a3535c49ef28, 0x32d892fad841c342,
	0x7127512f72f27cce, 0xa7f32346f95978e3, 0x12e0b01abb051238, 0x15e034d40fa197ae,
	0x314dffbe0815a3b4, 0x027990f029623981, 0xcadcd4e59ef40c4d, 0x9abfd8766a33735c,
	0x0e3ea96b5304a7d0, 0xad0c42d6fc585992, 0x187306c89bc215a9, 0xd4a60abcf3792b95,
	0xf935451de4f21df2, 0xa9538f0419755787, 0xdb9acddff56ca510, 0xd06c98cd5c0975eb,
	0xe612a3cb9ecba951, 0xc766e62cfcadaf96, 0xee64435a9752fe72, 0xa192d576b245165a,
	0x0a8787bf8ecb74b2, 0x81b3e73d20b49b6f, 0x7fa8220ba3b2ecea, 0x245731c13ca42499,
	0xb78dbfaf3a8d83bd, 0xea1ad565322a1a0b, 0x60e61c23a3795013, 0x6606d7e446282b93,
	0x6ca4ecb15c5f91e1, 0x9f626da15c9625f3, 0xe51b38608ef25f57, 0x958a324ceb064572,
}

// irregularSums holds the sums of the lengths 0 to 23 with the key ff, ee .. 00,
// of strings in which no byte follows from its neighbours.
var irregularSums = []uint64{
	0x6d16f3f4ea6e3ce9, 0x7587addc6e3ec7fe, 0xcd1574950511110e, 0x004f731ab0ecf572,
	0xecd757e1c735870f, 0xe792494a1d1dc9e0, 0x8c301b34fb62b7e5, 0xd50577d51420393c,
	0x6d416d481eadf076, 0x06285a00ea94d410, 0xb1347fe8a266960d, 0x315e97b082fdcf26,
	0x0c78401c1aaf9cb9, 0x7385af06d7154d70, 0x5dee2864c806706f, 0xd7398ba623a74725,
	0x76279795784aab86, 0xf042d71dc98caf10, 0x852dabc0d084b5cc, 0xba6315cc93744c59,
	0x20a7c4185a509058, 0x6b76f40342a41b46, 0x3dd1e8b565d6e067, 0x4ad2501534c5c29d,
}

// longSums holds sums with the key 00 to 0f of lengths whose last byte differs
// from the length itself, and of those around them.
var longSums = []struct {
	length int
	sum    uint64
}{
	{64, 0xacd2c40b8502cad8},
	{127, 0x9e7db1ba81dc7e3a},
	{128, 0xdeb79e256c8736ae},
	{255, 0xa9c169fec74db21a},
	{256, 0x999d0526d2a7bfd7},
	{257, 0x8a817b8d55b29748},
	{258, 0x34904eaf09993c21},
	{259, 0xa96e6a8e7e160384},
	{260, 0x4029ad35f90022d5},
	{261, 0xc46631525b2034f4},
	{262, 0x5a8375662ee0675a},
	{263, 0x86d801b865760792},
	{512, 0x883b57c3e55ada0e},
	{1000, 0xdb9b3ed69e31c9a6},
	{4096, 0xbf18b72de2c1553c},
	{65536, 0x8198936ae10d9342},
}

// zeroKeySum is the sum of the empty string with the zero key.
const zeroKeySum = 0x1e924b9d737700d7

func countingKey() sip.Key {
	return sip.Key{K0: 0x0706050403020100, K1: 0x0f0e0d0c0b0a0908}
}

func counting(n int) string {
	p := make([]byte, n)
	for i := range p {
		p[i] = byte(i)
	}
	return string(p)
}

func irregular(n int) string {
	p := make([]byte, n)
	for i := range p {
		p[i] = byte(i*i*167 + i*91 + 200)
	}
	return string(p)
}

// P1.1: every number of remaining bytes occurs, behind 0 to 7 whole words.
func TestSumOfEachLength(t *testing.T) {
	for n, want := range countingSums {
		if got := sip.Sum(countingKey(), counting(n)); got != want {
			t.Errorf("length %d: got %016x, want %016x", n, got, want)
		}
	}
}

// P1.1: the example of the document.
func TestSumOfTheExample(t *testing.T) {
	if got := sip.Sum(countingKey(), counting(15)); got != 0xa129ca6149be45e5 {
		t.Errorf("got %016x", got)
	}
}

// P1.1: both halves of the key count, with all their bits, and so does each
// byte of the string.
func TestSumOfIrregularStrings(t *testing.T) {
	k := sip.Key{K0: 0x8899aabbccddeeff, K1: 0x0011223344556677}
	for n, want := range irregularSums {
		if got := sip.Sum(k, irregular(n)); got != want {
			t.Errorf("length %d: got %016x, want %016x", n, got, want)
		}
	}
	if got := sip.Sum(sip.Key{}, ""); got != zeroKeySum {
		t.Errorf("zero key: got %016x", got)
	}
	if sip.Sum(sip.Key{K0: 1}, "a") == sip.Sum(sip.Key{K1: 1}, "a") {
		t.Error("the halves of the key can be exchanged")
	}
}

// P1.1: the length enters modulo 256.
func TestSumOfLongStrings(t *testing.T) {
	for _, c := range longSums {
		if got := sip.Sum(countingKey(), counting(c.length)); got != c.sum {
			t.Errorf("length %d: got %016x, want %016x", c.length, got, c.sum)
		}
	}
}

// P1.1: zero bytes count, though the last word is filled up with them.
func TestSumOfZeroBytes(t *testing.T) {
	seen := map[uint64]int{}
	for n := range 300 {
		sum := sip.Sum(countingKey(), strings.Repeat("\x00", n))
		if m, ok := seen[sum]; ok {
			t.Errorf("lengths %d and %d have the same sum", m, n)
		}
		seen[sum] = n
	}
}

// P1.1: a string is its bytes, whether or not it is valid text.
func TestSumOfInvalidText(t *testing.T) {
	replaced := sip.Sum(countingKey(), "\xef\xbf\xbd")
	if sip.Sum(countingKey(), "\xff") == replaced || sip.Sum(countingKey(), "\xff") == sip.Sum(countingKey(), "\xfe") {
		t.Error("invalid bytes are taken as if they were others")
	}
}

// P2: a sum does not depend on the calls before it.
func TestSumAgain(t *testing.T) {
	first := sip.Sum(countingKey(), "key")
	sip.Sum(sip.Key{K0: 7}, "something else")
	if sip.Sum(countingKey(), "key") != first {
		t.Error("the sum has changed")
	}
}

// P1.2: K0 is the first eight bytes, K1 the others, little-endian.
func TestOfSixteenBytes(t *testing.T) {
	k, ok := sip.Of([]byte(counting(16)))
	if !ok || k != countingKey() {
		t.Errorf("got %x, %v", k, ok)
	}
	k, ok = sip.Of(bytes.Repeat([]byte{0xff}, 16))
	if !ok || k != (sip.Key{K0: ^uint64(0), K1: ^uint64(0)}) {
		t.Errorf("ff: got %x, %v", k, ok)
	}
	k, ok = sip.Of(make([]byte, 16))
	if !ok || k != (sip.Key{}) {
		t.Errorf("zeros: got %x, %v", k, ok)
	}
}

// P1.2: each byte is at its own place.
func TestOfEachByte(t *testing.T) {
	for i := range 16 {
		p := make([]byte, 16)
		p[i] = 0x81
		want := sip.Key{K0: 0x81 << (8 * i)}
		if i >= 8 {
			want = sip.Key{K1: 0x81 << (8 * (i - 8))}
		}
		if k, ok := sip.Of(p); !ok || k != want {
			t.Errorf("byte %d: got %x, %v", i, k, ok)
		}
	}
}

// P1.2: any other number of bytes is rejected, with a zero key, however much
// spare capacity there is.
func TestOfOtherLengths(t *testing.T) {
	whole := bytes.Repeat([]byte{0xff}, 64)
	for n := range len(whole) + 1 {
		k, ok := sip.Of(whole[:n])
		if ok != (n == 16) || !ok && k != (sip.Key{}) {
			t.Errorf("%d bytes: got %x, %v", n, k, ok)
		}
	}
	if k, ok := sip.Of(nil); ok || k != (sip.Key{}) {
		t.Errorf("nil: got %x, %v", k, ok)
	}
}

// Memory: Of neither changes its argument nor keeps it.
func TestOfLeavesItsArgument(t *testing.T) {
	p := []byte(counting(32))
	k, _ := sip.Of(p[:16])
	if string(p) != counting(32) {
		t.Error("the argument has changed")
	}
	clear(p)
	if k != countingKey() {
		t.Error("the key has changed with the argument")
	}
}

// P1.2: a hash is the bits of the sum that the mask selects.
func TestHashTakesTheMask(t *testing.T) {
	masks := []uint64{0, 1, 0xff, 0xff00, 1 << 63, 0x5555555555555555, 0xf000000000000001, ^uint64(0)}
	for _, mask := range masks {
		h := sip.Hasher{Key: countingKey(), Mask: mask}
		for n, sum := range countingSums {
			if got := h.Hash(counting(n)); got != sum&mask {
				t.Errorf("mask %x, length %d: got %x, want %x", mask, n, got, sum&mask)
			}
		}
	}
}

// P1.2: a zero hasher has the zero key and takes no bit.
func TestHashOfZeroHasher(t *testing.T) {
	if got := (sip.Hasher{}).Hash("key"); got != 0 {
		t.Errorf("got %x", got)
	}
}

// P1.2: a full hasher has the given key and takes every bit.
func TestFull(t *testing.T) {
	for _, k := range []sip.Key{{}, countingKey(), {K0: ^uint64(0)}, {K1: 1}} {
		h := sip.Full(k)
		if h != (sip.Hasher{Key: k, Mask: 0xffffffffffffffff}) {
			t.Errorf("key %x: got %x", k, h)
		}
		if h.Hash("key") != sip.Sum(k, "key") {
			t.Errorf("key %x: the hash is not the sum", k)
		}
	}
}

// Values: changing a hasher does not change another one.
func TestHashersAreValues(t *testing.T) {
	h := sip.Full(countingKey())
	other := h
	other.Mask = 0
	other.Key.K0 = 0
	if h != sip.Full(countingKey()) {
		t.Error("a copy is not its own")
	}
}
