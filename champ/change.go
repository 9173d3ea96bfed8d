package champ

import (
	"quickset/api"
	"quickset/chunk"
	"quickset/node"
	"quickset/pair"
	"quickset/sip"
	"quickset/token"
)

// change is a Put or Drop of one key in progress.
type change struct {
	hasher sip.Hasher
	hash   uint64 // of the key
	by     *token.Token
}

// step is what layer 5 does to one node, with a token. All of its steps can be
// made twice, with the same outcome as once.
type step func(n *node.Node, t *token.Token) *node.Node

func setPair(i int, p pair.Pair) step {
	return func(n *node.Node, t *token.Token) *node.Node { return n.SetPair(t, i, p) }
}

func setKid(i int, kid *node.Node) step {
	return func(n *node.Node, t *token.Token) *node.Node { return n.SetKid(t, i, kid) }
}

func clearChunk(i int) step {
	return func(n *node.Node, t *token.Token) *node.Node { return n.Clear(t, i) }
}

func putPair(p pair.Pair) step {
	return func(n *node.Node, t *token.Token) *node.Node { return n.Put(t, p) }
}

func dropKey(key string) step {
	return func(n *node.Node, t *token.Token) *node.Node { return n.Drop(t, key) }
}

// put returns a node at a level with the pair p, which it does not have. All
// nodes above are the token's own if ours is set.
func (c change) put(n *node.Node, level int, ours bool, p pair.Pair) *node.Node {
	ours = ours && n.Owned(c.by)
	if level == api.Levels {
		return c.made(n, ours, putPair(p))
	}
	i := chunk.At(c.hash, level)
	if kid, ok := n.Kid(i); ok {
		return c.made(n, ours, setKid(i, c.put(kid, level+1, ours, p)))
	}
	if q, ok := n.Pair(i); ok && q.Key != p.Key {
		return c.made(n, ours, setKid(i, c.put(c.single(q, level+1), level+1, true, p)))
	}
	return c.made(n, ours, setPair(i, p))
}

// drop returns a node at a level without the key, which is below it. A child
// that would be left with one pair is not changed: it gives place to that pair.
func (c change) drop(n *node.Node, level int, ours bool, key string) *node.Node {
	ours = ours && n.Owned(c.by)
	if level == api.Levels {
		return c.made(n, ours, dropKey(key))
	}
	i := chunk.At(c.hash, level)
	kid, ok := n.Kid(i)
	if !ok {
		return c.made(n, ours, clearChunk(i))
	}
	if p, alone := other(kid, key); alone {
		return c.made(n, ours, setPair(i, p))
	}
	return c.made(n, ours, setKid(i, c.drop(kid, level+1, ours, key)))
}

// made makes a step. A node of the token's own is changed in place only if all
// nodes above it are its own, too (ours): below a node of somebody else it
// would be seen to change. The step without a token is what makes a copy of it.
func (c change) made(n *node.Node, ours bool, s step) *node.Node {
	if !ours && n.Owned(c.by) {
		n = s(n, nil)
	}
	return s(n, c.by)
}

// begun returns the root, or for nil one without pairs. Clearing a chunk of it
// is what makes it the token's: an empty node as such is nobody's.
func (c change) begun(root *node.Node) *node.Node {
	if root == nil {
		return node.Inner().Clear(c.by, 0)
	}
	return root
}

// single returns a new node at a level with only p. It is part of a trie only
// once another pair is put into it.
func (c change) single(p pair.Pair, level int) *node.Node {
	if level == api.Levels {
		return node.Bucket().Put(c.by, p)
	}
	return node.Inner().SetPair(c.by, chunk.At(c.hasher.Hash(p.Key), level), p)
}

// other returns the other pair below a node that has two, one of them with the
// key; false if it has more. The loop ends: as long as a node has only one
// child, that is the way to the key, which is there.
func other(n *node.Node, key string) (pair.Pair, bool) {
	for n.Nodes() != 0 {
		if n.Len() > 1 {
			return pair.Pair{}, false
		}
		n = n.Kids()[0]
	}
	return otherIn(n, key)
}

// otherIn returns the other one of two pairs that a node has; false if it does
// not have two. The number comes first, because a list of many would be copied.
func otherIn(n *node.Node, key string) (pair.Pair, bool) {
	if n.Len() != 2 {
		return pair.Pair{}, false
	}
	l := n.Pairs()
	if l[0].Key == key {
		return l[1], true
	}
	return l[0], true
}
