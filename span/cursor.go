package span

import (
	"maps"
	"slices"

	"quickset/pair"
	"quickset/radix"
)

// branch is a node, and a span of what follows its own key in the keys below it.
type branch struct {
	node *radix.Node
	span Span
}

// Cursor is a position in the iteration over a span: what it still has of each
// node on the path to it, from the root on.
//
// In a tree only a few branches have a key that the span might continue, but no
// pair in it. Those that the cursor has come to are kept nevertheless, so that it
// also soon finds the next pair, or none, if nodes without values are at very
// many places.
type Cursor struct {
	back bool
	path []place
	key  []byte // the last place's
	none map[branch]struct{}
}

// place is a node on the path. It has what was the node's when the cursor came
// to it. Its list is never changed, so that cursors can share it.
type place struct {
	branch
	size  int           // of its key
	value string        // its own pair's
	ahead bool          // its own pair is ahead
	kids  []*radix.Node // those that are ahead
	found bool          // a pair of the branch has been returned
}

// New returns a cursor ahead of the first pair of the span, or, if back is set,
// of the last one.
func New(root *radix.Node, s Span, back bool) *Cursor {
	c := &Cursor{back: back, none: map[branch]struct{}{}}
	c.enter(branch{root, s}, nil)
	return c
}

// Next returns the next pair, or false if there is none. The key of a node is
// less than those of its children.
func (c *Cursor) Next() (pair.Pair, bool) {
	if c == nil {
		return pair.Pair{}, false
	}
	for len(c.path) > 0 {
		top := &c.path[len(c.path)-1]
		switch {
		case top.ahead && (!c.back || len(top.kids) == 0):
			top.ahead, top.found = false, true
			return pair.Pair{Key: string(c.key[:top.size]), Value: top.value}, true
		case len(top.kids) > 0:
			kid := top.kids[0]
			top.kids = top.kids[1:]
			c.down(*top, kid)
		default:
			c.up()
		}
	}
	return pair.Pair{}, false
}

// Copy returns another cursor at the same position.
func (c *Cursor) Copy() *Cursor {
	if c == nil {
		return nil
	}
	return &Cursor{back: c.back, path: slices.Clone(c.path), key: slices.Clone(c.key), none: maps.Clone(c.none)}
}

// down goes to a child of the last place, unless nothing of the span is there.
func (c *Cursor) down(top place, kid *radix.Node) {
	in, ok := top.span.after(kid.Label())
	if !ok {
		return
	}
	b := branch{kid, in}
	if _, none := c.none[b]; !none {
		c.enter(b, append(c.key[:top.size], kid.Label()...))
	}
}

// up leaves the last place, of which nothing is ahead.
func (c *Cursor) up() {
	last := len(c.path) - 1
	top := c.path[last]
	c.path = c.path[:last]
	if !top.found {
		c.none[top.branch] = struct{}{}
	} else if last > 0 {
		c.path[last-1].found = true
	}
}

// enter appends a branch with that key to the path.
func (c *Cursor) enter(b branch, key []byte) {
	value, has := b.node.Value()
	kids := b.node.Kids()
	if c.back {
		slices.Reverse(kids)
	}
	c.key = key
	c.path = append(c.path, place{branch: b, size: len(key), value: value, ahead: has && b.span.Has(""), kids: kids})
}
