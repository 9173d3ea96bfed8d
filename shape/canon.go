package shape

import (
	"quickset/api"
	"quickset/chunk"
	"quickset/node"
	"quickset/sip"
)

// right reports whether a node to which these chunks lead is the trie of its
// pairs at its level. No key can be there twice if every pair is where its hash
// leads: no two places have the same chunks, and in a bucket keys differ.
func right(h sip.Hasher, n *node.Node, path []int) bool {
	level := len(path)
	if n.IsBucket() != (level == api.Levels) {
		return false
	}
	if level > 0 && alone(n) {
		return false
	}
	return rightPairs(h, n, path) && rightKids(h, n, path)
}

// alone reports whether a child should not be there, because it has fewer than
// two pairs. If it has children, each of them has two, or is found out itself.
func alone(n *node.Node) bool {
	return n.Nodes() == 0 && n.Len() < 2
}

// rightPairs reports whether the hashes of a node's own pairs lead to them.
func rightPairs(h sip.Hasher, n *node.Node, path []int) bool {
	if n.IsBucket() {
		for _, p := range n.Pairs() {
			if !leads(h.Hash(p.Key), path) {
				return false
			}
		}
		return true
	}
	for i := range n.Data().All() {
		p, _ := n.Pair(i)
		if !leads(h.Hash(p.Key), then(path, i)) {
			return false
		}
	}
	return true
}

// rightKids ends also for nodes that are below themselves: at the level
// api.Levels right takes no inner node, and buckets have no children.
func rightKids(h sip.Hasher, n *node.Node, path []int) bool {
	for i := range n.Nodes().All() {
		kid, _ := n.Kid(i)
		if !right(h, kid, then(path, i)) {
			return false
		}
	}
	return true
}

// leads reports whether a hash has these chunks, from level 0 on.
func leads(hash uint64, path []int) bool {
	for level, i := range path {
		if chunk.At(hash, level) != i {
			return false
		}
	}
	return true
}

// then returns a path of its own, so that paths with a common beginning do not
// overwrite one another.
func then(path []int, i int) []int {
	return append(path[:len(path):len(path)], i)
}
