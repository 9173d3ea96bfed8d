package build

import (
	"cmp"

	"quickset/pair"
	"quickset/radix"
	"quickset/twig"
)

// byByte returns the comparison of the bytes that keys have at an index.
func byByte(at int) func(p, q pair.Pair) int {
	return func(p, q pair.Pair) int {
		return cmp.Compare(p.Key[at], q.Key[at])
	}
}

// fork returns a node with that label, for pairs in increasing order whose keys
// have their first bytes, as many as at, in common. The key that has no others
// is the first one, if it is there.
func fork(label string, l []pair.Pair, at int) *radix.Node {
	has, value := false, ""
	if len(l) > 0 && len(l[0].Key) == at {
		has, value = true, l[0].Value
		l = l[1:]
	}
	var kids []*radix.Node
	for len(l) > 0 {
		same := alike(l, byByte(at))
		kids = append(kids, branch(same, at))
		l = l[len(same):]
	}
	return radix.Make(label, has, value, kids...)
}

// branch returns the branch of pairs in increasing order, below a node to which
// their first bytes lead, as many as from. What the first key and the last one
// have in common, all keys between them have, too.
func branch(l []pair.Pair, from int) *radix.Node {
	first, last := l[0].Key[from:], l[len(l)-1].Key[from:]
	n := twig.Common(first, last)
	return fork(first[:n], l, from+n)
}
