package radix

import (
	"slices"

	"quickset/token"
	"quickset/twig"
)

// change is a Put or Drop of one key in progress. Its steps take a node and
// whether that is ours: to be changed in place, because it was made in this
// call, or because its token owns it and it is nowhere else in the tree.
type change struct {
	by *token.Token
}

// put returns a node with a value for the key whose rest follows its label.
func (c change) put(n *Node, ours bool, rest, value string) *Node {
	m := c.own(n, ours)
	if rest == "" {
		m.value, m.has = value, true
		return m
	}
	at, found := m.place(rest[0])
	if !found {
		m.kids = slices.Insert(m.kids, at, c.put(c.leaf(rest), true, "", value))
		return m
	}
	kid := m.kids[at]
	inside := c.inside(m, kid)
	if common := twig.Common(kid.label, rest); common < len(kid.label) {
		kid, inside = c.split(kid, inside, common), true
	}
	m.kids[at] = c.put(kid, inside, rest[len(kid.label):], value)
	return m
}

// drop returns a node without the value of the key, which is there, and whose
// rest follows its label. A child without children has that key itself: nothing
// is left of it, and it is not changed.
func (c change) drop(n *Node, ours bool, rest string) *Node {
	m := c.own(n, ours)
	if rest == "" {
		m.value, m.has = "", false
		return m
	}
	at, _ := m.place(rest[0])
	kid := m.kids[at]
	if len(kid.kids) == 0 {
		m.kids = slices.Delete(m.kids, at, at+1)
		return m
	}
	m.kids[at] = c.joined(c.drop(kid, c.inside(m, kid), rest[len(kid.label):]))
	return m
}

// split returns a new branch with the first bytes of a node's label, and with
// that node, which keeps the others, as its child.
func (c change) split(n *Node, ours bool, common int) *Node {
	branch := c.leaf(n.label[:common])
	m := c.own(n, ours)
	m.label = n.label[common:]
	branch.kids = []*Node{m}
	return branch
}

// joined gives a branch that is not one any more the place of its only child,
// which is not changed: others may have it still. The branch itself was made in
// this call, or is ours.
func (c change) joined(n *Node) *Node {
	if n.has || len(n.kids) != 1 {
		return n
	}
	kid := n.kids[0]
	shared := c.shares(kid, c.inside(n, kid))
	n.label += kid.label
	n.value, n.has, n.kids, n.shared = kid.value, kid.has, slices.Clone(kid.kids), shared
	return n
}

// own returns the node that a change is made to: this one if it is ours,
// otherwise a copy.
func (c change) own(n *Node, ours bool) *Node {
	if ours {
		return n
	}
	m := c.leaf(n.label)
	m.value, m.has, m.kids, m.shared = n.value, n.has, slices.Clone(n.kids), c.shares(n, false)
	return m
}

// leaf returns a new node with only a label. A token that has ended is not kept
// in it, because it can never be live again.
func (c change) leaf(label string) *Node {
	n := &Node{label: label}
	if c.by.Live() {
		n.owner = c.by
	}
	return n
}

// inside reports whether a child of a node that was made in this call, or is
// ours, is ours, too.
func (c change) inside(n, kid *Node) bool {
	return !n.shared && kid.Owned(c.by)
}

// shares reports whether a node that takes over n's children might share one of
// the token's own with another node. That is so if n is not ours, because n
// stays where it is, and has them still.
func (c change) shares(n *Node, ours bool) bool {
	if ours {
		return n.shared
	}
	return slices.ContainsFunc(n.kids, func(k *Node) bool { return k.Owned(c.by) })
}
