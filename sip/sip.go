// Package sip is layer 1, the hash function for keys (SipHash-2-4): see
// shared/doc/01-sip.md.
package sip

import "math/bits"

// Key is what makes a hash secret.
type Key struct {
	K0, K1 uint64
}

// Hasher is a key, and which bits are taken.
type Hasher struct {
	Key  Key
	Mask uint64
}

// Of returns the key made of sixteen bytes; false for any other number of them.
func Of(p []byte) (Key, bool) {
	if len(p) != 16 {
		return Key{}, false
	}
	s := string(p)
	return Key{K0: word(s[:8]), K1: word(s[8:])}, true
}

// Sum returns SipHash-2-4 of the bytes of s.
func Sum(k Key, s string) uint64 {
	v := start(k)
	whole := len(s) - len(s)%8
	for i := 0; i < whole; i += 8 {
		v = v.mixed(word(s[i : i+8]))
	}
	v = v.mixed(last(s[whole:], len(s)))
	return v.finished()
}

// Hash returns the bits of the Sum that are set in the Mask.
func (h Hasher) Hash(s string) uint64 {
	return Sum(h.Key, s) & h.Mask
}

// Full returns a hasher with that key that takes all bits.
func Full(k Key) Hasher {
	return Hasher{Key: k, Mask: ^uint64(0)}
}

// state is the four numbers v0 to v3 of a hash in progress.
type state [4]uint64

func start(k Key) state {
	return state{
		k.K0 ^ 0x736f6d6570736575,
		k.K1 ^ 0x646f72616e646f6d,
		k.K0 ^ 0x6c7967656e657261,
		k.K1 ^ 0x7465646279746573,
	}
}

// round returns the state after one round. The order of its steps is part of
// the result: each one works on what the steps before it left.
func (v state) round() state {
	v0, v1, v2, v3 := v[0], v[1], v[2], v[3]

	v0 += v1
	v1 = bits.RotateLeft64(v1, 13) ^ v0
	v0 = bits.RotateLeft64(v0, 32)

	v2 += v3
	v3 = bits.RotateLeft64(v3, 16) ^ v2

	v0 += v3
	v3 = bits.RotateLeft64(v3, 21) ^ v0

	v2 += v1
	v1 = bits.RotateLeft64(v1, 17) ^ v2
	v2 = bits.RotateLeft64(v2, 32)

	return state{v0, v1, v2, v3}
}

// mixed returns the state after the eight bytes m.
func (v state) mixed(m uint64) state {
	v[3] ^= m
	v = v.round().round()
	v[0] ^= m
	return v
}

// finished returns the hash, once all bytes are mixed in.
func (v state) finished() uint64 {
	v[2] ^= 0xff
	v = v.round().round().round().round()
	return v[0] ^ v[1] ^ v[2] ^ v[3]
}

// word returns the little-endian number of eight bytes.
func word(s string) uint64 {
	var m uint64
	for i := range 8 {
		m |= uint64(s[i]) << (8 * i)
	}
	return m
}

// last returns the final eight bytes: the rest of the string (0 to 7 bytes),
// zeros, and the length of the whole string. The shift drops all of the length
// but its lowest byte, which is what makes it modulo 256.
func last(rest string, length int) uint64 {
	m := uint64(length) << 56
	switch len(rest) {
	case 7:
		m |= uint64(rest[6]) << 48
		fallthrough
	case 6:
		m |= uint64(rest[5]) << 40
		fallthrough
	case 5:
		m |= uint64(rest[4]) << 32
		fallthrough
	case 4:
		m |= uint64(rest[3]) << 24
		fallthrough
	case 3:
		m |= uint64(rest[2]) << 16
		fallthrough
	case 2:
		m |= uint64(rest[1]) << 8
		fallthrough
	case 1:
		m |= uint64(rest[0])
	}
	return m
}
