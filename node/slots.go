package node

import (
	"slices"

	"quickset/chunk"
	"quickset/pair"
)

// slots are the pairs and the children of an inner node. The lists have one
// element for each chunk of their set, in order, so that an element's index is
// the chunk's rank; no chunk is in both sets. No two nodes share a list, so
// that a list can be changed in place.
type slots struct {
	data, nodes chunk.Bits
	pairs       []pair.Pair
	kids        []*Node
}

// copied returns the same slots with lists of their own.
func (s *slots) copied() slots {
	return slots{data: s.data, nodes: s.nodes, pairs: slices.Clone(s.pairs), kids: slices.Clone(s.kids)}
}

func (s *slots) setPair(i int, p pair.Pair) {
	s.clearKid(i)
	s.pairs = placed(s.pairs, s.data.Rank(i), s.data.Has(i), p)
	s.data = s.data.With(i)
}

func (s *slots) setKid(i int, k *Node) {
	s.clearPair(i)
	s.kids = placed(s.kids, s.nodes.Rank(i), s.nodes.Has(i), k)
	s.nodes = s.nodes.With(i)
}

func (s *slots) clearPair(i int) {
	if s.data.Has(i) {
		at := s.data.Rank(i)
		s.pairs = slices.Delete(s.pairs, at, at+1)
		s.data = s.data.Without(i)
	}
}

func (s *slots) clearKid(i int) {
	if s.nodes.Has(i) {
		at := s.nodes.Rank(i)
		s.kids = slices.Delete(s.kids, at, at+1)
		s.nodes = s.nodes.Without(i)
	}
}

// placed returns the list l, changed in place, with x at an index: instead of
// the element there if that one is to be replaced, otherwise ahead of it.
func placed[T any](l []T, at int, replace bool, x T) []T {
	if replace {
		l[at] = x
		return l
	}
	return slices.Insert(l, at, x)
}
