package tree_test

import (
	"math/bits"
	"slices"
	"strings"
	"testing"

	"quickset/api"
	"quickset/champ"
	"quickset/node"
	"quickset/pair"
	"quickset/radix"
	"quickset/sip"
	"quickset/tree"
)

// P14.3: the kind, and then the bytes of the root, of small trees.
func TestShape(t *testing.T) {
	empty, none := strings.Repeat("\x00", 9), "\x00\x00\x00\x00\x00"
	a := "\x01\x00a\x03\x00<a>"
	for _, c := range []struct {
		x    tree.Tree
		want string
	}{
		{tree.Tree{}, "\x00" + empty},
		{made(tree.Champ, hashers()[0]), "\x00" + empty},
		{made(tree.Radix, sip.Hasher{}), "\x01" + none},
		{tree.OfChamp(sip.Hasher{}, nil), "\x00" + empty},
		{tree.OfRadix(nil), "\x01" + none},
		{filled(t, nil, tree.Tree{}, "a"), "\x00\x00\x01\x00\x00\x00\x00\x00\x00\x00" + a},
		{filled(t, nil, made(tree.Radix, sip.Hasher{}), "a"), "\x01\x00\x00\x00\x01\x00\x01\x00a\x01\x03\x00<a>\x00\x00"},
		{filled(t, nil, made(tree.Radix, sip.Hasher{}), ""), "\x01\x00\x00\x01\x02\x00<>\x00\x00"},
		{tree.OfChamp(sip.Hasher{}, node.Bucket()), "\x00\x01\x00\x00"},
		{tree.OfRadix(radix.Make("x", false, "")), "\x01\x01\x00x\x00\x00\x00"},
	} {
		if got := c.x.Shape(); string(got) != c.want {
			t.Errorf("got %x, want %x", got, c.want)
		}
	}
}

// P14.3: with no bits, two pairs are in a bucket below api.Levels nodes.
func TestShapeOfBucket(t *testing.T) {
	want := "\x00" + strings.Repeat("\x00\x00\x00\x00\x00\x01\x00\x00\x00", api.Levels) + "\x01\x02\x00\x01\x00a\x03\x00<a>\x01\x00b\x03\x00<b>"
	for _, h := range []sip.Hasher{{}, {Key: hashers()[0].Key}} {
		x := filled(t, nil, made(tree.Champ, h), "b", "a")
		if got := x.Shape(); string(got) != want || !x.Canon() {
			t.Errorf("got %x, want %x", got, want)
		}
	}
}

// P14.3: roots that are not those of their pairs, and pairs of another hasher.
func TestCanon(t *testing.T) {
	h := hashers()[0]
	full := filled(t, nil, made(tree.Champ, h), keys(50)...)
	for i, x := range []tree.Tree{
		tree.OfChamp(h, node.Bucket()),
		tree.OfChamp(h, node.Inner().SetKid(nil, 3, node.Inner())),
		tree.OfChamp(h, full.Champ().SetPair(nil, 3, of("key 4")).SetPair(nil, 5, of("key 4"))),
		tree.OfChamp(hashers()[1], full.Champ()),
		tree.OfChamp(sip.Hasher{}, full.Champ()),
		tree.OfRadix(radix.Make("a", true, "")),
		tree.OfRadix(radix.Make("", false, "", radix.Make("a", false, ""))),
		tree.OfRadix(radix.Make("", false, "", radix.Make("b", true, ""), radix.Make("a", true, ""))),
		tree.OfRadix(radix.Make("", false, "", radix.Make("", true, ""))),
	} {
		if x.Canon() {
			t.Errorf("%d: Canon", i)
		}
	}
	for i, x := range []tree.Tree{
		{}, full, tree.OfChamp(h, full.Champ()), tree.OfChamp(h, node.Inner()),
		tree.OfRadix(radix.Make("", true, "")),
		tree.OfRadix(radix.Make("", false, "", radix.Make("a", true, ""), radix.Make("b", true, ""))),
	} {
		if !x.Canon() {
			t.Errorf("%d: not Canon", i)
		}
	}
}

// P14.3: two trees are Like if both the kinds and the hashers are the same,
// whatever they have. The hasher of a Radix is always zero.
func TestLike(t *testing.T) {
	l := hashers()
	for i, h := range l {
		for j, g := range l {
			a, b := made(tree.Champ, h), filled(t, nil, made(tree.Champ, g), "a")
			if got := tree.Like(a, b); got != (i == j) {
				t.Errorf("champs %v, %v: got %v", h, g, got)
			}
			c, d := made(tree.Radix, h), filled(t, nil, made(tree.Radix, g), "a")
			if !tree.Like(c, d) || !tree.Like(c, tree.OfRadix(nil)) {
				t.Errorf("radixes %v, %v", h, g)
			}
			if tree.Like(a, c) || tree.Like(d, b) {
				t.Errorf("different kinds %v, %v", h, g)
			}
		}
	}
	if !tree.Like(tree.Tree{}, made(tree.Champ, sip.Hasher{})) || tree.Like(tree.Tree{}, made(tree.Radix, sip.Hasher{})) || tree.Like(made(tree.Champ, l[0]), tree.Tree{}) {
		t.Error("zero")
	}
}

// P14.3: hashers that differ in one thing only.
func TestLikeByParts(t *testing.T) {
	h := sip.Hasher{Key: sip.Key{K0: 1, K1: 2}, Mask: 3}
	for i, g := range []sip.Hasher{{Key: sip.Key{K0: 9, K1: 2}, Mask: 3}, {Key: sip.Key{K0: 1, K1: 9}, Mask: 3}, {Key: sip.Key{K0: 1, K1: 2}, Mask: 9}, {Key: sip.Key{K0: 2, K1: 1}, Mask: 3}, {Key: h.Key, Mask: bits.Reverse64(3)}} {
		a, b := made(tree.Champ, h), made(tree.Champ, g)
		if tree.Like(a, b) || tree.Same(a, b) || tree.One(a, b) || tree.One(a, tree.OfChamp(g, a.Champ())) {
			t.Errorf("%d: %v is like %v", i, g, h)
		}
	}
}

// orders are the same keys in some different orders.
func orders(l []string) [][]string {
	back := slices.Clone(l)
	slices.Reverse(back)
	half := slices.Concat(l[len(l)/2:], l[:len(l)/2])
	return [][]string{l, back, half, slices.Sorted(slices.Values(l))}
}

// P14.3: trees of equal pairs are the Same, in whatever order they were made, and
// whatever else was there in between; they are not One.
func TestSame(t *testing.T) {
	live, _ := take(t)
	for _, s := range starts() {
		for _, l := range [][]string{{"a"}, {"a", "b"}, append(keys(30), odd...)} {
			x := filled(t, nil, s.Tree, l...)
			for _, order := range orders(l) {
				y := filled(t, live, s.Tree, append(order, "more", "and more")...)
				y = emptied(t, nil, y, "and more", "more")
				if !tree.Same(x, y) || !tree.Same(y, x) || tree.One(x, y) {
					t.Fatalf("%s: %d keys: not the Same, or One", s.name, len(l))
				}
			}
		}
	}
}

// P14.3: trees that are Like are the Same if and only if their pairs are; Same
// says what the Shapes say.
func TestSameIffPairs(t *testing.T) {
	sets := [][]string{nil, {""}, {"a"}, {"b"}, {"a", "b"}, {"", "a"}, {"b", "a"}, {"ab", "b"}, {"a", "ab", "abc"}, keys(20), keys(21), odd}
	for _, s := range starts() {
		var all []tree.Tree
		for _, l := range sets {
			x := filled(t, nil, s.Tree, l...)
			y, err := x.With(nil, pair.Pair{Key: "a", Value: "another"})
			if err != api.OK {
				t.Fatal(err)
			}
			all = append(all, x, y)
		}
		for i, a := range all {
			for j, b := range all {
				want := slices.Equal(a.Pairs(), b.Pairs())
				if tree.Same(a, b) != want || slices.Equal(a.Shape(), b.Shape()) != want {
					t.Fatalf("%s: %d, %d: Same: got %v, want %v", s.name, i, j, !want, want)
				}
			}
		}
	}
}

// P14.3: trees with the same pairs, even with the same nodes, that are not Like
// are neither the Same nor One.
func TestSameOfUnlike(t *testing.T) {
	var all []tree.Tree
	for _, h := range hashers() {
		all = append(all, made(tree.Champ, h))
	}
	all = append(all, made(tree.Radix, sip.Hasher{}))
	for _, l := range [][]string{nil, {"a"}, keys(20)} {
		for i, s := range all {
			for j, r := range all {
				a, b := filled(t, nil, s, l...), filled(t, nil, r, l...)
				if tree.Same(a, b) != (i == j) || tree.One(a, b) != (i == j && len(l) == 0) {
					t.Errorf("%d, %d: %d keys: got %v, %v", i, j, len(l), tree.Same(a, b), tree.One(a, b))
				}
			}
		}
	}
	root := champ.Empty()
	x, y := tree.OfChamp(hashers()[0], root), tree.OfChamp(hashers()[1], root)
	if tree.Same(x, y) || tree.One(x, y) {
		t.Error("one root of two hashers")
	}
}

// P14.3: One is of the identical root, not of an equal one.
func TestOne(t *testing.T) {
	for _, s := range starts() {
		x := filled(t, nil, s.Tree, "a", "b")
		y := tree.OfRadix(x.Radix())
		z := tree.OfRadix(radix.Make("", false, "", x.Radix().Kids()...))
		if s.Kind() == tree.Champ {
			y = tree.OfChamp(x.Hasher(), x.Champ())
			z = tree.OfChamp(x.Hasher(), x.Champ().Clear(nil, 0))
		}
		if !tree.One(x, y) || !tree.One(y, x) || !tree.One(x, x) {
			t.Errorf("%s: not One", s.name)
		}
		if tree.One(x, z) || tree.One(x, filled(t, nil, s.Tree, "a", "b")) || tree.One(x, s.Tree) {
			t.Errorf("%s: One with another root", s.name)
		}
		if again := filled(t, nil, x, "a", "b"); !tree.One(x, again) {
			t.Errorf("%s: not One after the same pairs", s.name)
		}
	}
	for kind := range 2 {
		a, b := made(kind, sip.Hasher{}), made(kind, sip.Hasher{})
		if tree.One(a, b) || !tree.One(a, a) || !tree.Same(a, b) {
			t.Errorf("%d: two roots without pairs", kind)
		}
	}
}

// P1, P2: every call ends, and none panics, for roots that are not those of their
// pairs, nodes below themselves among them; the results are the same each time.
func TestBent(t *testing.T) {
	by, _ := take(t)
	loop := node.Inner().SetPair(by, 1, of("a"))
	loop.SetKid(by, 0, loop)
	roots := []*node.Node{loop, node.Bucket(), node.Bucket().Put(nil, of("a")), node.Inner().SetKid(nil, 0, node.Inner()), node.Inner().SetKid(nil, 5, node.Bucket()).SetPair(nil, 6, of("a")).SetPair(nil, 7, of("a"))}
	var all []tree.Tree
	for _, n := range roots {
		for _, h := range hashers() {
			all = append(all, tree.OfChamp(h, n))
		}
	}
	leaf := radix.Make("", false, "")
	for _, n := range []*radix.Node{radix.Make("a", true, "1"), radix.Make("", false, "", leaf, leaf), radix.Make("", true, "", radix.Make("b", true, ""), radix.Make("a", false, ""), radix.Make("a", true, ""))} {
		all = append(all, tree.OfRadix(n))
	}
	for i, x := range all {
		if x.Len() != x.Len() || !slices.Equal(x.Pairs(), x.Pairs()) || !slices.Equal(x.Shape(), x.Shape()) || x.Canon() || !tree.Same(x, x) || !tree.One(x, x) {
			t.Errorf("%d: another result", i)
		}
		for _, key := range []string{"", "a", "ab", "b", "c", long, longer} {
			x.Get(key)
			x.With(nil, of(key))
			x.Without(nil, key)
			for _, y := range all {
				tree.Same(x, y)
			}
		}
	}
}
