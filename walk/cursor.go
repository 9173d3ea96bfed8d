package walk

import (
	"slices"

	"quickset/api"
	"quickset/champ"
	"quickset/chunk"
	"quickset/node"
	"quickset/pair"
	"quickset/sip"
)

// Cursor is a position in the walk of a trie: what the walk still has of each
// node on the path to it, from the root on.
//
// In a trie no node is at two places. The nodes with children that the cursor
// has come to are kept nevertheless, so that the walk also ends, and soon, for
// nodes that are below themselves or below many others.
type Cursor struct {
	path  []rest
	depth int
	met   map[*node.Node]struct{}
}

// rest is what the walk still has of a node. The lists were the node's when the
// cursor came to it, and are never changed, so that cursors can share them.
type rest struct {
	pairs []pair.Pair
	kids  []*node.Node
}

// New returns a cursor at the beginning of the walk.
func New(root *node.Node) *Cursor {
	c := &Cursor{met: map[*node.Node]struct{}{}}
	c.enter(root)
	return c
}

// Seek returns a cursor after the pair of a key, or nil and false if the key is
// not there. What is behind the pair are the pairs that follow in its node, the
// node's children, and the children to the right of the path.
func Seek(h sip.Hasher, root *node.Node, key string) (*Cursor, bool) {
	if _, found := champ.Get(h, root, key); !found {
		return nil, false
	}
	c := &Cursor{met: map[*node.Node]struct{}{}}
	hash := h.Hash(key)
	n := root
	for level := range api.Levels {
		i := chunk.At(hash, level)
		kid, ok := n.Kid(i)
		if !ok {
			break
		}
		c.push(n, rest{kids: n.Kids()[n.Nodes().Rank(i)+1:]})
		n = kid
	}
	c.push(n, rest{pairs: after(n.Pairs(), key), kids: n.Kids()})
	c.depth = len(c.path)
	return c, true
}

// Next returns the next pair, or false if there is none.
func (c *Cursor) Next() (pair.Pair, bool) {
	if c == nil {
		return pair.Pair{}, false
	}
	for len(c.path) > 0 {
		top := &c.path[len(c.path)-1]
		if len(top.pairs) > 0 {
			p := top.pairs[0]
			top.pairs = top.pairs[1:]
			c.depth = len(c.path)
			return p, true
		}
		if len(top.kids) > 0 {
			kid := top.kids[0]
			top.kids = top.kids[1:]
			c.enter(kid)
		} else {
			c.path = c.path[:len(c.path)-1]
		}
	}
	c.depth = 0
	return pair.Pair{}, false
}

// Copy returns another cursor at the same position.
func (c *Cursor) Copy() *Cursor {
	if c == nil {
		return nil
	}
	d := &Cursor{path: slices.Clone(c.path), depth: c.depth, met: map[*node.Node]struct{}{}}
	for n := range c.met {
		d.met[n] = struct{}{}
	}
	return d
}

// Depth returns the number of nodes on the path to the pair that Next returned
// last, or that was sought; 0 before the first pair and after the end.
func (c *Cursor) Depth() int {
	if c == nil {
		return 0
	}
	return c.depth
}

// enter goes down to a node, the children of which are walked only once.
func (c *Cursor) enter(n *node.Node) {
	if _, again := c.met[n]; again {
		c.push(n, rest{pairs: n.Pairs()})
		return
	}
	c.push(n, rest{pairs: n.Pairs(), kids: n.Kids()})
}

// push appends the rest of a node to the path.
func (c *Cursor) push(n *node.Node, r rest) {
	if n.Nodes() != 0 {
		c.met[n] = struct{}{}
	}
	c.path = append(c.path, r)
}

// after returns what follows the pair of a key.
func after(l []pair.Pair, key string) []pair.Pair {
	at := slices.IndexFunc(l, func(p pair.Pair) bool { return p.Key == key })
	return l[at+1:]
}
