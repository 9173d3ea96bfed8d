package near

import (
	"slices"
	"strings"

	"quickset/pair"
	"quickset/radix"
	"quickset/twig"
)

// stop is a node on the way down to a key. Its own key is that key or a
// beginning of it.
type stop struct {
	node *radix.Node
	key  string
	less []*radix.Node // the children that have smaller keys only
	more []*radix.Node // the children that have greater keys only
}

// way returns the nodes with whose keys the given one begins, from the root
// down. No other pairs than those of these nodes are outside of less and more.
func way(root *radix.Node, key string) []stop {
	var l []stop
	rest := key
	for n := root; n != nil; {
		kids := n.Kids()
		at, found := slices.BinarySearchFunc(kids, rest, order)
		s := stop{node: n, key: key[:len(key)-len(rest)], less: kids[:at], more: kids[at:]}
		n = nil
		if found {
			n, s.more = kids[at], kids[at+1:]
			rest, _ = twig.Cut(rest, n.Label())
		}
		l = append(l, s)
	}
	return l
}

// order compares a child with what follows in a key: if that begins with the
// child's label, then the way goes on there; otherwise all keys of the child are
// less, or all are greater.
func order(kid *radix.Node, rest string) int {
	if twig.Begins(rest, kid.Label()) {
		return 0
	}
	return strings.Compare(kid.Label(), rest)
}

// first returns the pair with the smallest key of a node with that key.
func first(n *radix.Node, key string) (pair.Pair, bool) {
	path := []byte(key)
	for {
		value, has := n.Value()
		if has {
			return pair.Pair{Key: string(path), Value: value}, true
		}
		kids := n.Kids()
		if len(kids) == 0 {
			return pair.Pair{}, false
		}
		n = kids[0]
		path = append(path, n.Label()...)
	}
}

// last returns the pair with the largest key of a node with that key.
func last(n *radix.Node, key string) (pair.Pair, bool) {
	path := []byte(key)
	for kids := n.Kids(); len(kids) > 0; kids = n.Kids() {
		n = kids[len(kids)-1]
		path = append(path, n.Label()...)
	}
	value, has := n.Value()
	if !has {
		return pair.Pair{}, false
	}
	return pair.Pair{Key: string(path), Value: value}, true
}

// sizes returns how many pairs each node of a tree has, its own and those below
// it. A node can be at several places of one tree, but counts are made once.
func sizes(root *radix.Node) map[*radix.Node]int {
	size := map[*radix.Node]int{}
	var count func(n *radix.Node) int
	count = func(n *radix.Node) int {
		sum, done := size[n]
		if done {
			return sum
		}
		if _, has := n.Value(); has {
			sum = 1
		}
		for _, k := range n.Kids() {
			sum += count(k)
		}
		size[n] = sum
		return sum
	}
	count(root)
	return size
}
