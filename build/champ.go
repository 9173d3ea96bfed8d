package build

import (
	"cmp"
	"slices"

	"quickset/api"
	"quickset/chunk"
	"quickset/node"
	"quickset/pair"
	"quickset/sip"
)

// hashed is a pair, and the hash of its key.
type hashed struct {
	hash uint64
	pair pair.Pair
}

func hashedAll(h sip.Hasher, l []pair.Pair) []hashed {
	var all []hashed
	for _, p := range l {
		all = append(all, hashed{h.Hash(p.Key), p})
	}
	return all
}

// byChunk returns the comparison of the chunks at a level.
func byChunk(level int) func(a, b hashed) int {
	return func(a, b hashed) int {
		return cmp.Compare(chunk.At(a.hash, level), chunk.At(b.hash, level))
	}
}

// trie returns the trie, at a level, of pairs with different keys, the chunks of
// which are the same at all levels above. It brings the list into the order of
// the level's chunks: the pairs of a child are next to each other then.
func trie(l []hashed, level int) *node.Node {
	if level == api.Levels {
		return bucket(l)
	}
	slices.SortFunc(l, byChunk(level))
	n := node.Inner()
	for len(l) > 0 {
		same := alike(l, byChunk(level))
		i := chunk.At(same[0].hash, level)
		if len(same) == 1 {
			n = n.SetPair(nil, i, same[0].pair)
		} else {
			n = n.SetKid(nil, i, trie(same, level+1))
		}
		l = l[len(same):]
	}
	return n
}

// bucket returns the bucket of pairs in any order, which Put sorts by key.
func bucket(l []hashed) *node.Node {
	n := node.Bucket()
	for _, x := range l {
		n = n.Put(nil, x.pair)
	}
	return n
}
