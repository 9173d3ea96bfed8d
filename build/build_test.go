package build_test

import (
	"maps"
	"math"
	"slices"
	"strconv"
	"strings"
	"testing"

	"quickset/api"
	"quickset/build"
	"quickset/champ"
	"quickset/node"
	"quickset/pair"
	"quickset/radix"
	"quickset/shape"
	"quickset/sip"
	"quickset/span"
	"quickset/token"
	"quickset/tree"
	"quickset/walk"
)

// long and longer are the longest key, and one that is too long; wide and wider
// are such values.
var (
	long   = strings.Repeat("k", api.MaxKey)
	longer = strings.Repeat("k", api.MaxKey+1)
	wide   = strings.Repeat("v", api.MaxValue)
	wider  = strings.Repeat("v", api.MaxValue+1)
)

// odd are keys of any bytes, each of a right length; many begin with another.
var odd = []string{"", "\x00", "\x00\x00", "\x00\xff", "a", "a\x00", "a\xff", "ab", "abc", "b", "\n", " ", "\x7f", "\x80", "\xc3\xa9", "\xc3", "\xc3\xa8", "\xff", "\xff\xff", "\xff\x00", long, long[1:], long[2:] + "\xff"}

// hashers are some with all bits, with few, and with none.
func hashers() []sip.Hasher {
	key := sip.Key{K0: 0x0706050403020100, K1: 0x0f0e0d0c0b0a0908}
	l := []sip.Hasher{sip.Full(key), sip.Full(sip.Key{}), {}, {Key: key}}
	for _, mask := range []uint64{1, 1 << 63, 0x1f, 0x3e0, 3 << 36, 0xf << 60, 3 | 3<<30, ^uint64(0x1f), ^uint64(1<<25 - 1), 0x1084210842108421} {
		l = append(l, sip.Hasher{Key: key, Mask: mask})
	}
	return l
}

// keys are n keys in an order that is that of neither their bytes nor their
// hashes.
func keys(n int) []string {
	var l []string
	for i := range n {
		l = append(l, "key "+strconv.Itoa(i*7919%n))
	}
	return l
}

// listed are pairs with these keys, each with a value of its own.
func listed(keys ...string) []pair.Pair {
	var l []pair.Pair
	for i, key := range keys {
		l = append(l, pair.Pair{Key: key, Value: strconv.Itoa(i)})
	}
	return l
}

// rising is what a list has by the definition: each key with its last value.
func rising(l []pair.Pair) []pair.Pair {
	m := map[string]string{}
	for _, p := range l {
		m[p.Key] = p.Value
	}
	var all []pair.Pair
	for _, key := range slices.Sorted(maps.Keys(m)) {
		all = append(all, pair.Pair{Key: key, Value: m[key]})
	}
	return all
}

// wrongTrie tells what a node at a level has that the trie of the pairs (P6.1),
// which are in increasing order, does not have, or the other way round; nothing
// if it is that trie.
func wrongTrie(h sip.Hasher, n *node.Node, level int, l []pair.Pair) string {
	where := "level " + strconv.Itoa(level) + ": "
	if n == nil || n.IsBucket() != (level == 13) {
		return where + "not the kind of node"
	}
	if level == 13 {
		if !slices.Equal(n.Pairs(), l) {
			return where + "other pairs in the bucket"
		}
		return ""
	}
	var by [32][]pair.Pair
	for _, p := range l {
		i := h.Hash(p.Key) >> (5 * level) & 31
		by[i] = append(by[i], p)
	}
	for i, l := range by {
		p, isPair := n.Pair(i)
		kid, isKid := n.Kid(i)
		if isPair != (len(l) == 1) || isKid != (len(l) > 1) || isPair && p != l[0] {
			return where + "chunk " + strconv.Itoa(i) + " for " + strconv.Itoa(len(l)) + " pairs"
		}
		if !isKid {
			continue
		}
		if s := wrongTrie(h, kid, level+1, l); s != "" {
			return s
		}
	}
	return ""
}

// wrongRadix tells the same of a node and the branch of the pairs (P11.1), or the
// tree of these if the label is empty. The keys are what is left of them at the
// node, its label included.
func wrongRadix(n *radix.Node, label string, l []pair.Pair) string {
	where := strconv.Quote(label) + ": "
	if n == nil || n.Label() != label {
		return where + "another label"
	}
	value, has := "", false
	by := map[byte][]pair.Pair{}
	for _, p := range l {
		rest := p.Key[len(label):]
		if rest == "" {
			value, has = p.Value, true
		} else {
			by[rest[0]] = append(by[rest[0]], pair.Pair{Key: rest, Value: p.Value})
		}
	}
	if v, ok := n.Value(); v != value || ok != has {
		return where + "another value"
	}
	kids, order := n.Kids(), slices.Sorted(maps.Keys(by))
	if len(kids) != len(order) {
		return where + "another number of children"
	}
	for i, b := range order {
		if s := wrongRadix(kids[i], prefix(by[b]), by[b]); s != "" {
			return where + s
		}
	}
	return ""
}

// prefix returns the longest common prefix of all keys.
func prefix(l []pair.Pair) string {
	s := l[0].Key
	for _, p := range l {
		for !strings.HasPrefix(p.Key, s) {
			s = s[:len(s)-1]
		}
	}
	return s
}

// checkChamp holds the trie of a list against its pairs, and against the one that
// Puts make in the order of the list.
func checkChamp(t *testing.T, h sip.Hasher, l []pair.Pair) {
	t.Helper()
	got := build.Champ(h, l)
	if s := wrongTrie(h, got, 0, rising(l)); s != "" {
		t.Fatalf("%x: %.200q: %s", h, l, s)
	}
	want := champ.Empty()
	for _, p := range l {
		want, _ = champ.Put(h, nil, want, p)
	}
	if !shape.Same(got, want) || !shape.Canon(h, got) || !slices.Equal(walk.Sorted(got), rising(l)) {
		t.Fatalf("%x: %.200q: not what Puts make", h, l)
	}
}

func checkRadix(t *testing.T, l []pair.Pair) {
	t.Helper()
	got := build.Radix(l)
	if s := wrongRadix(got, "", rising(l)); s != "" {
		t.Fatalf("%.200q: %.400s", l, s)
	}
	want := radix.Empty()
	for _, p := range l {
		want, _ = radix.Put(nil, want, p)
	}
	if !radix.Same(got, want) || !radix.Canon(got) || !slices.Equal(span.Pairs(got, span.All()), rising(l)) {
		t.Fatalf("%.200q: not what Puts make", l)
	}
}

// checkTree holds a tree against its kind, its hasher, and the list of its pairs.
func checkTree(t *testing.T, what string, x tree.Tree, kind int, h sip.Hasher, l []pair.Pair) {
	t.Helper()
	if x.Kind() != kind || x.Hasher() != h || x.Len() != len(rising(l)) || !slices.Equal(x.Pairs(), rising(l)) {
		t.Fatalf("%s: got %d, %x, %.200q", what, x.Kind(), x.Hasher(), x.Pairs())
	}
	s := ""
	if kind == tree.Radix {
		s = wrongRadix(x.Radix(), "", rising(l))
	} else {
		s = wrongTrie(h, x.Champ(), 0, rising(l))
	}
	if s != "" || !x.Canon() || (x.Champ() == nil) != (kind == tree.Radix) || (x.Radix() == nil) != (kind == tree.Champ) {
		t.Fatalf("%s: %.400s", what, s)
	}
}

// check holds the trees of a right list, by all calls, against it.
func check(t *testing.T, l []pair.Pair) {
	t.Helper()
	checkRadix(t, l)
	for i, h := range hashers() {
		checkChamp(t, h, l)
		x, err := build.Tree(tree.Champ, h, l)
		if err != api.OK {
			t.Fatalf("champ %d: got %d", i, err)
		}
		checkTree(t, "champ "+strconv.Itoa(i), x, tree.Champ, h, l)
		y, err := build.Tree(tree.Radix, h, l)
		if err != api.OK {
			t.Fatalf("radix %d: got %d", i, err)
		}
		checkTree(t, "radix "+strconv.Itoa(i), y, tree.Radix, sip.Hasher{}, l)
		for _, z := range []tree.Tree{x, y} {
			w, err := build.Like(z, l)
			if err != api.OK || !tree.Same(w, z) {
				t.Fatalf("like %d: got %d", i, err)
			}
			checkTree(t, "like "+strconv.Itoa(i), w, z.Kind(), z.Hasher(), l)
		}
	}
}

// P15.1: the document's example.
func TestExample(t *testing.T) {
	l := []pair.Pair{{Key: "b", Value: "1"}, {Key: "a", Value: "2"}, {Key: "b", Value: "3"}}
	x, err := build.Tree(tree.Radix, sip.Full(sip.Key{K0: 1}), l)
	if got := x.Pairs(); err != api.OK || !slices.Equal(got, []pair.Pair{{Key: "a", Value: "2"}, {Key: "b", Value: "3"}}) {
		t.Errorf("got %q, %d", got, err)
	}
	check(t, l)
}

// P15.1: a nil list and an empty one make trees without pairs, which have a root
// nevertheless.
func TestNoPairs(t *testing.T) {
	full := []pair.Pair{{Key: "a"}, {Key: "b"}}
	for _, l := range [][]pair.Pair{nil, {}, full[:0], full[2:]} {
		check(t, l)
		for _, h := range hashers() {
			if n := build.Champ(h, l); n == nil || n.IsBucket() || n.Len() != 0 {
				t.Errorf("champ %x: got %v", h, n)
			}
			for kind := range 2 {
				x, _ := build.Tree(kind, h, l)
				empty, _ := tree.New(kind, h)
				if !tree.Same(x, empty) || x.Champ() != x.Champ() || x.Radix() != x.Radix() {
					t.Errorf("%d, %x: not the tree without pairs", kind, h)
				}
			}
		}
		if n := build.Radix(l); n == nil || n.Label() != "" || len(n.Kids()) != 0 {
			t.Errorf("radix: got %v", n)
		}
	}
}

// P15.1: all lists of up to four of these keys, in any order and any number of
// times, each time with another value.
func TestAllLists(t *testing.T) {
	lists := [][]string{{}}
	for from := 0; len(lists[from]) < 4; from++ {
		for _, key := range []string{"", "a", "ab", "acd", "b"} {
			lists = append(lists, append(slices.Clone(lists[from]), key))
		}
	}
	for _, l := range lists {
		check(t, listed(l...))
	}
}

// P15.1: single pairs, and keys of any bytes, upwards, downwards, mixed and
// several times.
func TestOrders(t *testing.T) {
	for _, key := range odd {
		check(t, listed(key))
		check(t, listed(key, key, key))
	}
	up := slices.Sorted(slices.Values(append(keys(60), odd...)))
	down := slices.Clone(up)
	slices.Reverse(down)
	mixed := append(slices.Clone(odd), keys(60)...)
	for _, l := range [][]string{up, down, mixed, append(slices.Clone(up), down...), append(slices.Clone(mixed), up...)} {
		check(t, listed(l...))
	}
	for _, h := range hashers() {
		for kind := range 2 {
			a, _ := build.Tree(kind, h, rising(listed(up...)))
			b := rising(listed(up...))
			slices.Reverse(b)
			if c, _ := build.Tree(kind, h, b); !tree.Same(a, c) {
				t.Errorf("%d, %x: the order of different keys counts", kind, h)
			}
		}
	}
}

// P15.1: the value that a key has last counts, also if it is an empty one, or the
// one that the key had before.
func TestLastValue(t *testing.T) {
	for _, values := range [][]string{{"1", "2"}, {"2", "1"}, {"1", ""}, {"", "1"}, {"1", "2", "1"}, {"1", "1"}, {"", "1", ""}} {
		l := listed("z", "", "ab")
		for _, value := range values {
			for _, key := range []string{"a", "b", "c"} {
				l = append(l, pair.Pair{Key: key, Value: value + key}, pair.Pair{Key: "same", Value: value})
			}
		}
		check(t, l)
	}
}

// P15.1: many pairs, most of them several times.
func TestMany(t *testing.T) {
	l := listed(append(append(keys(3000), keys(2000)...), keys(2999)...)...)
	checkRadix(t, l)
	checkChamp(t, hashers()[0], l)
	checkChamp(t, sip.Hasher{Mask: 0xff << 4}, l)
	checkChamp(t, sip.Hasher{}, l[:400])
	for kind := range 2 {
		x, err := build.Tree(kind, hashers()[0], l)
		if err != api.OK || x.Len() != 3000 || !x.Canon() {
			t.Errorf("%d: got %d, %d pairs", kind, err, x.Len())
		}
	}
}

// P15.1: nodes with children for every chunk, and for every byte.
func TestWide(t *testing.T) {
	var l []string
	for i := range 256 {
		for _, rest := range []string{"", "x", "\x00", "\xff"} {
			l = append(l, string([]byte{byte(i * 7)})+rest)
		}
	}
	check(t, listed(l...))
	if got := len(build.Radix(listed(l...)).Kids()); got != 256 {
		t.Errorf("got %d children", got)
	}
	if got := build.Champ(hashers()[0], listed(l...)).Nodes().Count(); got != 32 {
		t.Errorf("got %d children", got)
	}
}

// P15.1: Champ and Radix take any list: keys and values of any length, and keys
// that begin with one another thousands of times.
func TestAnyLength(t *testing.T) {
	l := listed(longer, longer+"l", strings.Repeat("x", 70000), strings.Repeat("x", 65536), strings.Repeat("x", 65536)+"y", "")
	l = append(l, pair.Pair{Key: "a", Value: wider}, pair.Pair{Key: "b", Value: strings.Repeat("w", 70000)})
	checkRadix(t, l)
	for _, h := range hashers() {
		checkChamp(t, h, l)
	}
	deep := strings.Repeat("a", 5000)
	l = nil
	for i := range deep {
		l = append(l, pair.Pair{Key: deep[:i*7%5000]})
	}
	n, depth := build.Radix(l), 0
	for len(n.Kids()) == 1 {
		n, depth = n.Kids()[0], depth+1
	}
	if depth != 4999 || radix.Len(build.Radix(l)) != 5000 || !radix.Canon(build.Radix(l)) {
		t.Errorf("got a depth of %d", depth)
	}
}

// P15.1: the longest keys and values are right for Tree and Like.
func TestLongest(t *testing.T) {
	check(t, []pair.Pair{{Key: long, Value: wide}, {Key: long[1:] + "l", Value: wide}, {Key: "", Value: wide}, {Key: strings.Repeat("\xff", api.MaxKey)}})
}

// P15.1: kinds that do not exist, ahead of the error of a pair.
func TestNoKind(t *testing.T) {
	lists := [][]pair.Pair{nil, {}, listed("a", "b"), listed(longer), {{Key: "a", Value: wider}}}
	for _, kind := range []int{2, 3, 5, 255, 256, 257, 1 << 32, 1<<32 + 1, math.MaxInt, -1, -2, -255, -256, math.MinInt, math.MinInt + 1} {
		for _, l := range lists {
			for _, h := range hashers() {
				if x, err := build.Tree(kind, h, l); err != api.ErrKind || x != (tree.Tree{}) {
					t.Errorf("%d, %.40q: got %v, %d", kind, l, x, err)
				}
			}
		}
	}
}

// refused checks that Tree and Like return this error for a list, and nothing
// else.
func refused(t *testing.T, l []pair.Pair, want api.Errno) {
	t.Helper()
	for _, h := range hashers() {
		for kind := range 2 {
			if x, err := build.Tree(kind, h, l); err != want || x != (tree.Tree{}) {
				t.Errorf("Tree %d, %.40q: got %v, %d, want %d", kind, l, x, err, want)
			}
			empty, _ := tree.New(kind, h)
			full, _ := empty.With(nil, pair.Pair{Key: "a", Value: "1"})
			for _, like := range []tree.Tree{{}, empty, full} {
				if x, err := build.Like(like, l); err != want || x != (tree.Tree{}) {
					t.Errorf("Like %d, %.40q: got %v, %d, want %d", kind, l, x, err, want)
				}
			}
		}
	}
}

// P15.1: the error of the first pair of the list that has one: by its key, or
// otherwise by its value.
func TestFirstError(t *testing.T) {
	good := listed(append(keys(20), odd...)...)
	badKey, badValue, both := pair.Pair{Key: longer}, pair.Pair{Key: "v", Value: wider}, pair.Pair{Key: longer, Value: wider}
	for _, bad := range []pair.Pair{badKey, {Key: longer, Value: wide}, both, {Key: strings.Repeat("\x00", 1<<16)}} {
		for _, at := range []int{0, 1, len(good)} {
			refused(t, slices.Insert(slices.Clone(good), at, bad), api.ErrKey)
			refused(t, append(slices.Insert(slices.Clone(good), at, bad), badValue), api.ErrKey)
		}
	}
	for _, bad := range []pair.Pair{badValue, {Value: wider}, {Key: long, Value: wider}, {Key: "zz", Value: strings.Repeat("\x00", 1<<16)}} {
		for _, at := range []int{0, 1, len(good)} {
			refused(t, slices.Insert(slices.Clone(good), at, bad), api.ErrValue)
			refused(t, append(slices.Insert(slices.Clone(good), at, bad), badKey, both), api.ErrValue)
		}
	}
}

// P15.1: the first pair is the first one of the list as it is, and not of the
// sorted one; and a value that a later one replaces counts, too.
func TestFirstOfList(t *testing.T) {
	refused(t, []pair.Pair{{Key: "z", Value: wider}, {Key: longer}}, api.ErrValue)
	refused(t, []pair.Pair{{Key: longer}, {Key: "a", Value: wider}}, api.ErrKey)
	refused(t, []pair.Pair{{Key: "a", Value: wider}, {Key: "a", Value: "1"}}, api.ErrValue)
	refused(t, []pair.Pair{{Key: "a", Value: "1"}, {Key: "a", Value: wider}, {Key: "a", Value: "2"}, {Key: longer}}, api.ErrValue)
}

// P15.1: Like takes no more of a tree than its kind and its hasher, and does not
// change it; a zero Tree is a Champ with a zero hasher.
func TestLike(t *testing.T) {
	l := listed("b", "a", "ab", "b")
	x, err := build.Like(tree.Tree{}, l)
	if err != api.OK {
		t.Errorf("zero: got %d", err)
	}
	checkTree(t, "zero", x, tree.Champ, sip.Hasher{}, l)
	for _, h := range hashers() {
		for kind := range 2 {
			empty, _ := tree.New(kind, h)
			full, _ := build.Tree(kind, h, listed(append(keys(30), odd...)...))
			likes := []tree.Tree{empty, full, tree.OfChamp(h, nil), tree.OfChamp(h, node.Bucket()), tree.OfRadix(nil), tree.OfRadix(radix.Make("x", false, ""))}
			for _, like := range likes {
				before := like.Shape()
				x, err := build.Like(like, l)
				if err != api.OK || !tree.Like(x, like) || !slices.Equal(like.Shape(), before) {
					t.Errorf("%d, %x: got %d", kind, h, err)
				}
				checkTree(t, "like", x, like.Kind(), like.Hasher(), l)
			}
		}
	}
}

// P15.1 and P14.1: a Radix has a zero hasher, whatever Tree is given.
func TestHasherOfRadix(t *testing.T) {
	for _, h := range hashers() {
		if x, err := build.Tree(tree.Radix, h, listed("a")); err != api.OK || x.Hasher() != (sip.Hasher{}) {
			t.Errorf("%x: got %x, %d", h, x.Hasher(), err)
		}
	}
}

// P15.1: nobody owns what is built, and no two results have a node in common: so
// changes with a token never change a tree that was built.
func TestNobodyOwns(t *testing.T) {
	pool, _ := token.New(1)
	by, _ := pool.Take()
	l := listed(append(keys(40), odd...)...)
	for _, h := range hashers() {
		for kind := range 2 {
			x, _ := build.Tree(kind, h, l)
			y, _ := build.Tree(kind, h, l)
			if tree.One(x, y) || x.Champ().Owned(by) || x.Radix().Owned(by) {
				t.Errorf("%d, %x: one root for both, or owned", kind, h)
			}
			z := x
			for _, p := range l {
				z, _ = z.Without(by, p.Key)
			}
			checkTree(t, "built", x, x.Kind(), x.Hasher(), l)
			checkTree(t, "built again", y, y.Kind(), y.Hasher(), l)
			checkTree(t, "emptied", z, x.Kind(), x.Hasher(), nil)
		}
	}
}

// Memory: the list stays as it was, and so does the spare capacity behind it; it
// can be overwritten, and the trees do not change.
func TestMemory(t *testing.T) {
	whole := listed(append(append(keys(40), odd...), keys(20)...)...)
	for n := range len(whole) {
		checkMemory(t, slices.Clone(whole), n)
	}
}

// checkMemory is for the first n pairs of a list that may be overwritten.
func checkMemory(t *testing.T, all []pair.Pair, n int) {
	t.Helper()
	before, l := slices.Clone(all), all[:n]
	h := hashers()[n%len(hashers())]
	c, r := build.Champ(h, l), build.Radix(l)
	x, _ := build.Tree(tree.Champ, h, l)
	y, _ := build.Tree(tree.Radix, h, l)
	z, _ := build.Like(x, l)
	w, _ := build.Like(y, l)
	if !slices.Equal(all, before) {
		t.Fatalf("%d pairs: the list has changed", n)
	}
	clear(all)
	checkTree(t, "Champ", tree.OfChamp(h, c), tree.Champ, h, before[:n])
	checkTree(t, "Radix", tree.OfRadix(r), tree.Radix, sip.Hasher{}, before[:n])
	for _, x := range []tree.Tree{x, y, z, w} {
		checkTree(t, "Tree or Like", x, x.Kind(), x.Hasher(), before[:n])
	}
}
