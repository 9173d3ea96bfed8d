package tree

import (
	"quickset/radix"
	"quickset/shape"
)

// Shape returns the kind, followed by the encoding of the root.
func (t Tree) Shape() []byte {
	p := []byte{byte(t.traits.kind)}
	if t.traits.kind == Radix {
		return append(p, radix.Shape(t.radix)...)
	}
	return append(p, shape.Of(t.Champ())...)
}

// Canon reports whether the root is exactly the one of its pairs.
func (t Tree) Canon() bool {
	if t.traits.kind == Radix {
		return radix.Canon(t.radix)
	}
	return shape.Canon(t.traits.hasher, t.Champ())
}

// Like reports whether both have the same kind and the same hasher.
func Like(a, b Tree) bool {
	return a.traits == b.traits
}

// Same reports whether both are Like, with the same Shape. The roots that a tree
// does not have are nil for both, and so the same.
func Same(a, b Tree) bool {
	return Like(a, b) && shape.Same(a.Champ(), b.Champ()) && radix.Same(a.radix, b.radix)
}

// One reports whether both are Like, with the identical root. A zero Tree, which
// has none, is one with itself.
func One(a, b Tree) bool {
	return a == b
}
