package radix

import (
	"bytes"
	"slices"

	"quickset/shape"
)

// Shape returns the encoding of a node and everything below it. It keeps its
// own list of what is still to come, because a tree can be as deep as a key is
// long.
func Shape(root *Node) []byte {
	if root == nil {
		return nil
	}
	var p []byte
	todo := []*Node{root}
	for len(todo) > 0 {
		n := todo[len(todo)-1]
		p = n.appended(p)
		todo = todo[:len(todo)-1]
		for _, k := range slices.Backward(n.kids) {
			todo = append(todo, k)
		}
	}
	return p
}

// appended appends the encoding of a node without its children. The Texts are
// made on their own: one that is given p would copy all of it.
func (n *Node) appended(p []byte) []byte {
	p = append(p, shape.Text(nil, n.label)...)
	if n.has {
		p = append(p, 1)
		p = append(p, shape.Text(nil, n.value)...)
	} else {
		p = append(p, 0)
	}
	return append(p, byte(len(n.kids)), byte(len(n.kids)>>8))
}

// Same reports whether both have the same Shape. One node has only one, so that
// it need not be made.
func Same(a, b *Node) bool {
	return a == b || bytes.Equal(Shape(a), Shape(b))
}

// Canon reports whether root is the tree of its pairs. What is asked of a node
// does not depend on where it is, so that each one is looked at only once, at
// however many places it is.
func Canon(root *Node) bool {
	if root == nil || root.label != "" {
		return false
	}
	seen := map[*Node]struct{}{}
	todo := []*Node{root}
	for len(todo) > 0 {
		n := todo[len(todo)-1]
		todo = todo[:len(todo)-1]
		if _, again := seen[n]; again {
			continue
		}
		seen[n] = struct{}{}
		if !n.branches() {
			return false
		}
		todo = append(todo, n.kids...)
	}
	return true
}

// branches reports whether the children begin with different bytes, in
// increasing order, and each of them has a value or branches itself. Then a
// label cannot be longer: two keys differ in what follows it, or one ends.
func (n *Node) branches() bool {
	last := -1
	for _, k := range n.kids {
		if k.first() <= last || !k.has && len(k.kids) < 2 {
			return false
		}
		last = k.first()
	}
	return true
}
