package shape_test

import (
	"bytes"
	"slices"
	"strconv"
	"strings"
	"testing"

	"quickset/api"
	"quickset/champ"
	"quickset/chunk"
	"quickset/node"
	"quickset/pair"
	"quickset/shape"
	"quickset/sip"
	"quickset/token"
)

// odd are texts of any bytes and any length, also of lengths that two bytes
// cannot tell.
var odd = []string{"", "\x00", "\x00\x00", "a", "ab", "\n", "\x7f", "\x80", "\xc3\xa9", "\xc3", "\xff", "\xff\xff", strings.Repeat("k", 255), strings.Repeat("k", 256), strings.Repeat("v", 4097), strings.Repeat("w", 65535), strings.Repeat("x", 65536), strings.Repeat("y", 65537), strings.Repeat("z", 3*65536+258)}

type named struct {
	name string
	sip.Hasher
}

// hashers are some whose hashes share no chunks in particular, and some whose
// hashes share the chunks of some levels, or of all.
func hashers() []named {
	key := sip.Key{K0: 0x0706050403020100, K1: 0x0f0e0d0c0b0a0908}
	masked := func(mask uint64) sip.Hasher { return sip.Hasher{Key: key, Mask: mask} }
	return []named{
		{"all bits", sip.Full(key)},
		{"all bits, another key", sip.Full(sip.Key{})},
		{"zero", sip.Hasher{}},
		{"no bits", masked(0)},
		{"bit 0", masked(1)},
		{"bit 63", masked(1 << 63)},
		{"bits of levels 0 and 6", masked(3 | 3<<30)},
		{"level 0", masked(0x1f)},
		{"level 1", masked(0x3e0)},
		{"the last level", masked(0xf << 60)},
		{"bits of levels 3, 7 and 12", masked(1<<15 | 3<<36 | 1<<61)},
		{"a bit of each level", masked(0x1084210842108421)},
	}
}

func of(key string) pair.Pair {
	return pair.Pair{Key: key, Value: "<" + key + ">"}
}

func keys(n int) []string {
	var l []string
	for i := range n {
		l = append(l, "key "+strconv.Itoa(i*7919%n))
	}
	return l
}

func trie(h sip.Hasher, by *token.Token, l ...string) *node.Node {
	root := champ.Empty()
	for _, key := range l {
		root, _ = champ.Put(h, by, root, of(key))
	}
	return root
}

// takes returns a pool of n tokens that are all out.
func takes(t *testing.T, n int) (*token.Pool, []*token.Token) {
	t.Helper()
	p, err := token.New(n)
	if err != api.OK {
		t.Fatal(err)
	}
	var l []*token.Token
	for range n {
		x, err := p.Take()
		if err != api.OK {
			t.Fatal(err)
		}
		l = append(l, x)
	}
	return p, l
}

// text is the definition of a Text.
func text(s string) string {
	n := len(s) % 65536
	return string([]byte{byte(n % 256), byte(n / 256)}) + s
}

func four(b chunk.Bits) string {
	x := uint32(b)
	return string([]byte{byte(x), byte(x >> 8), byte(x >> 16), byte(x >> 24)})
}

// want is the definition of Of, for the nodes of a path that may still be as
// long.
func want(n *node.Node, deep int) string {
	if n == nil || deep == 0 {
		return ""
	}
	s := ""
	if n.IsBucket() {
		s = "\x01" + text(strings.Repeat("x", n.Len()))[:2]
		for _, p := range n.Pairs() {
			s += text(p.Key) + text(p.Value)
		}
		return s
	}
	s = "\x00" + four(n.Data()) + four(n.Nodes())
	for i := range 32 {
		if p, ok := n.Pair(i); ok {
			s += text(p.Key) + text(p.Value)
		}
	}
	for i := range 32 {
		if kid, ok := n.Kid(i); ok {
			s += want(kid, deep-1)
		}
	}
	return s
}

func check(t *testing.T, what string, n *node.Node) {
	t.Helper()
	if got, want := string(shape.Of(n)), want(n, 14); got != want {
		t.Fatalf("%s: got %.200x, want %.200x", what, got, want)
	}
}

// chain returns an inner node with n-1 others below it, each below the one
// before, and each with a pair of its own.
func chain(n int) *node.Node {
	var below *node.Node
	for i := n; i > 0; i-- {
		below = node.Inner().SetPair(nil, 0, of(strconv.Itoa(i))).SetKid(nil, 31, below)
	}
	return below
}

// P7.1: the example of the document, no node, and nodes with nothing.
func TestNothing(t *testing.T) {
	if got := shape.Of(node.Inner()); !bytes.Equal(got, make([]byte, 9)) {
		t.Errorf("an empty inner node: got %x", got)
	}
	if got := shape.Of(node.Bucket()); !bytes.Equal(got, []byte{1, 0, 0}) {
		t.Errorf("an empty bucket: got %x", got)
	}
	if got := shape.Of(nil); len(got) != 0 {
		t.Errorf("nil: got %x", got)
	}
}

// P7.1: all bytes of some nodes, written out.
func TestOfBytes(t *testing.T) {
	full := node.Inner().SetPair(nil, 31, pair.Pair{Key: "last", Value: "\xff"}).SetPair(nil, 8, pair.Pair{Key: "", Value: "v"}).SetKid(nil, 0, node.Inner()).SetKid(nil, 17, node.Bucket().Put(nil, pair.Pair{Key: "b"}).Put(nil, pair.Pair{Key: "a", Value: "1"}))
	for _, c := range []struct {
		n    *node.Node
		want []byte
	}{
		{node.Inner().SetPair(nil, 0, pair.Pair{}), []byte{0, 1, 0, 0, 0, 0, 0, 0, 0, 0, 0, 0, 0}},
		{node.Bucket().Put(nil, pair.Pair{}), []byte{1, 1, 0, 0, 0, 0, 0}},
		{full, []byte{
			0, 0x00, 0x01, 0x00, 0x80, 0x01, 0x00, 0x02, 0x00,
			0, 0, 1, 0, 'v',
			4, 0, 'l', 'a', 's', 't', 1, 0, 0xff,
			0, 0, 0, 0, 0, 0, 0, 0, 0,
			1, 2, 0, 1, 0, 'a', 1, 0, '1', 1, 0, 'b', 0, 0,
		}},
	} {
		if got := shape.Of(c.n); !bytes.Equal(got, c.want) {
			t.Errorf("got %x, want %x", got, c.want)
		}
		check(t, "by the definition", c.n)
	}
}

// P7.1: a pair for every chunk, a child for every chunk, and both in turn.
func TestOfEveryChunk(t *testing.T) {
	pairs, kids, both := node.Inner(), node.Inner(), node.Inner()
	for i := range 32 {
		kid := node.Bucket().Put(nil, of(strconv.Itoa(i)))
		pairs = pairs.SetPair(nil, 31-i, of(strconv.Itoa(i)))
		kids = kids.SetKid(nil, 31-i, kid)
		if i%2 == 0 {
			both = both.SetPair(nil, i, of(strconv.Itoa(i)))
		} else {
			both = both.SetKid(nil, i, kid)
		}
		check(t, "pairs", pairs)
		check(t, "kids", kids)
		check(t, "both", both)
	}
}

// P7.1: the number of a bucket's pairs has two bytes, and is modulo 2^16.
func TestOfBuckets(t *testing.T) {
	_, by := takes(t, 1)
	for _, n := range []int{1, 2, 255, 256, 257, 1000, 65535, 65536, 65538} {
		b := node.Bucket().Drop(by[0], "")
		for i := range n {
			b.Put(by[0], pair.Pair{Key: string([]byte{byte(i >> 16), byte(i >> 8), byte(i)})})
		}
		got := shape.Of(b)
		if head := []byte{1, byte(n), byte(n >> 8), 3, 0}; !bytes.Equal(got[:5], head) || len(got) != 3+7*n {
			t.Errorf("%d pairs: got %x.., %d bytes", n, got[:5], len(got))
		}
	}
}

// P7.1: keys and values of any bytes and any length.
func TestOfTexts(t *testing.T) {
	for i, key := range odd {
		for _, value := range []string{"", "v", odd[len(odd)-1-i]} {
			p := pair.Pair{Key: key, Value: value}
			check(t, "in an inner node", node.Inner().SetPair(nil, i, p))
			check(t, "in a bucket", node.Inner().SetKid(nil, i, node.Bucket().Put(nil, p)))
		}
	}
}

// P7.1: what is below the fourteenth node of a path is ignored, though the
// fourteenth one's Nodes tell of it.
func TestOfDepth(t *testing.T) {
	for n := 1; n <= 40; n++ {
		check(t, strconv.Itoa(n)+" nodes", chain(n))
		got := shape.Of(chain(n))
		if count := bytes.Count(got, []byte("<")); count != min(n, 14) {
			t.Errorf("%d nodes: got those of %d", n, count)
		}
	}
	if bytes.Equal(shape.Of(chain(14)), shape.Of(chain(15))) || !bytes.Equal(shape.Of(chain(15)), shape.Of(chain(16))) {
		t.Error("a child's depth")
	}
}

// P7.1: a node that is at several places is encoded at each.
func TestOfShared(t *testing.T) {
	kid := node.Bucket().Put(nil, of("a"))
	for range 5 {
		kid = node.Inner().SetKid(nil, 1, kid).SetPair(nil, 2, of("b")).SetKid(nil, 3, kid)
		check(t, "twice at each level", kid)
	}
	if got := bytes.Count(shape.Of(kid), []byte("<a>")); got != 32 {
		t.Errorf("got %d", got)
	}
}

// P7.1: tries.
func TestOfTries(t *testing.T) {
	for _, h := range hashers() {
		for _, n := range []int{0, 1, 2, 3, 10, 100} {
			check(t, h.name, trie(h.Hasher, nil, keys(n)...))
		}
	}
}

// P7.1: p, the length, and s.
func TestText(t *testing.T) {
	for _, p := range [][]byte{nil, {}, {9}, []byte("before"), bytes.Repeat([]byte{7}, 70000)} {
		for _, s := range odd {
			if got, want := string(shape.Text(p, s)), string(p)+text(s); got != want {
				t.Errorf("%.20x and %.20q: got %.40x", p, s, got)
			}
		}
	}
	for n, want := range map[int][2]byte{0: {0, 0}, 1: {1, 0}, 255: {255, 0}, 256: {0, 1}, 65535: {255, 255}, 65536: {0, 0}, 65537: {1, 0}, 131072 + 770: {2, 3}} {
		got := shape.Text(nil, strings.Repeat("s", n))
		if [2]byte(got) != want || len(got) != n+2 {
			t.Errorf("%d bytes: got %x", n, got[:2])
		}
	}
}

// P7.1: a Text appended to a Text.
func TestTexts(t *testing.T) {
	var p []byte
	s := ""
	for _, x := range odd[:14] {
		p = shape.Text(p, x)
		s += text(x)
		if string(p) != s {
			t.Fatalf("got %x, want %x", p, s)
		}
	}
}

// Memory: Text leaves p and what is behind its end, and its result shares
// nothing with p or with another result.
func TestTextMemory(t *testing.T) {
	for _, s := range []string{"", "a", "abcdef"} {
		for _, spare := range []int{0, 1, 2, 3, 8, 100} {
			for _, size := range []int{0, 1, 5} {
				room := bytes.Repeat([]byte{5}, size+spare)
				p := room[:size]
				one, two := shape.Text(p, s), shape.Text(p, s)
				want := string(p) + text(s)
				if !bytes.Equal(room, bytes.Repeat([]byte{5}, size+spare)) {
					t.Fatalf("the argument has changed: %x", room)
				}
				overwrite(one)
				if string(two) != want || !bytes.Equal(room, bytes.Repeat([]byte{5}, size+spare)) {
					t.Fatalf("a result shares memory: %x, %x", two, room)
				}
				overwrite(room)
				if string(two) != want {
					t.Fatalf("a result shares memory with its argument: %x", two)
				}
			}
		}
	}
}

// overwrite writes over a slice and its spare capacity.
func overwrite(p []byte) {
	p = p[:cap(p)]
	for i := range p {
		p[i] = 0xee
	}
}

// Memory: Of's results share nothing, and nodes stay as they are.
func TestOfMemory(t *testing.T) {
	h := sip.Hasher{Mask: 0x3ff}
	root := trie(h, nil, keys(40)...)
	one, two := shape.Of(root), shape.Of(root)
	overwrite(one)
	if s := want(root, 14); string(two) != s || string(shape.Of(root)) != s {
		t.Error("a result shares memory")
	}
	shape.Same(root, chain(3))
	shape.Canon(h, root)
	for _, key := range keys(40) {
		if v, ok := champ.Get(h, root, key); v != of(key).Value || !ok {
			t.Errorf("%s: got %q, %v", key, v, ok)
		}
	}
}

// several are nodes that all have different shapes.
func several() []*node.Node {
	p := pair.Pair{Key: "a", Value: "1"}
	l := []*node.Node{
		nil,
		node.Inner(),
		node.Bucket(),
		node.Inner().SetPair(nil, 0, p),
		node.Inner().SetPair(nil, 1, p),
		node.Inner().SetPair(nil, 0, pair.Pair{Key: "a", Value: "2"}),
		node.Inner().SetPair(nil, 0, pair.Pair{Key: "b", Value: "1"}),
		node.Inner().SetPair(nil, 0, pair.Pair{Key: "a1"}),
		node.Inner().SetPair(nil, 0, pair.Pair{Value: "a1"}),
		node.Inner().SetPair(nil, 0, p).SetPair(nil, 1, p),
		node.Bucket().Put(nil, p),
		node.Bucket().Put(nil, p).Put(nil, of("b")),
	}
	for _, kid := range l[1:] {
		l = append(l, node.Inner().SetKid(nil, 0, kid), node.Inner().SetKid(nil, 31, kid), node.Inner().SetPair(nil, 0, p).SetKid(nil, 5, kid))
	}
	return l
}

// P7.2: the same Of, also of other nodes with equal contents, and of no node.
func TestSame(t *testing.T) {
	a, b := several(), several()
	for i := range a {
		for j := range b {
			if got := shape.Same(a[i], b[j]); got != (i == j) {
				t.Errorf("%d and %d: got %v", i, j, got)
			}
			if got := shape.Same(a[i], a[j]); got != (i == j) {
				t.Errorf("%d and %d of one list: got %v", i, j, got)
			}
		}
	}
}

// P7.2: nodes are the Same if Of ignores what tells them apart, or if it cannot
// tell them apart.
func TestSameOf(t *testing.T) {
	if shape.Same(chain(14), chain(15)) || !shape.Same(chain(15), chain(16)) || !shape.Same(chain(15), chain(40)) {
		t.Error("deeper children")
	}
	long := strings.Repeat("\x00", 65536)
	one := node.Inner().SetPair(nil, 0, pair.Pair{Key: long, Value: ""})
	two := node.Inner().SetPair(nil, 0, pair.Pair{Key: "", Value: long})
	if !shape.Same(one, two) {
		t.Error("lengths modulo 2^16")
	}
}

// P7.2: ownership does not matter: by a live token, by another, by an ended one,
// by none.
func TestOwnership(t *testing.T) {
	for _, h := range hashers() {
		pool, by := takes(t, 3)
		var roots []*node.Node
		for _, maker := range append(by, nil) {
			roots = append(roots, trie(h.Hasher, maker, keys(30)...))
		}
		pool.End(by[2])
		for _, a := range roots {
			for _, b := range roots {
				if !shape.Same(a, b) || !bytes.Equal(shape.Of(a), shape.Of(b)) {
					t.Errorf("%s: not the same", h.name)
				}
			}
			if !shape.Canon(h.Hasher, a) {
				t.Errorf("%s: not canonical", h.name)
			}
		}
	}
}

// P7.2: tries of a hasher, whatever the order of their changes.
func TestCanonTries(t *testing.T) {
	for _, h := range hashers() {
		root, m := champ.Empty(), 0
		for i, key := range keys(80) {
			root, _ = champ.Put(h.Hasher, nil, root, of(key))
			if i%3 == 2 {
				root, _ = champ.Drop(h.Hasher, nil, root, keys(80)[i/2])
			}
			if !shape.Canon(h.Hasher, root) {
				t.Fatalf("%s: false for a trie", h.name)
			}
			m = champ.Len(root)
		}
		for _, p := range pairs(root) {
			root, _ = champ.Drop(h.Hasher, nil, root, p.Key)
			if m--; !shape.Canon(h.Hasher, root) || champ.Len(root) != m {
				t.Fatalf("%s: false for a trie of %d", h.name, m)
			}
		}
	}
}

func pairs(n *node.Node) []pair.Pair {
	l := n.Pairs()
	for _, kid := range n.Kids() {
		l = append(l, pairs(kid)...)
	}
	return l
}

// P7.2: no node, nodes with nothing, and the root's own kind.
func TestCanonEdges(t *testing.T) {
	for _, h := range hashers() {
		for _, c := range []struct {
			what string
			n    *node.Node
			want bool
		}{
			{"nil", nil, false},
			{"an empty inner node", node.Inner(), true},
			{"an empty bucket", node.Bucket(), false},
			{"a bucket of one", node.Bucket().Put(nil, of("a")), false},
			{"a bucket of two", node.Bucket().Put(nil, of("a")).Put(nil, of("b")), false},
			{"one pair", node.Inner().SetPair(nil, chunk.At(h.Hash("a"), 0), of("a")), true},
			{"one pair elsewhere", node.Inner().SetPair(nil, chunk.At(h.Hash("a"), 0)^1, of("a")), false},
			{"an empty child", node.Inner().SetKid(nil, 0, node.Inner()), false},
			{"a bucket as a child", node.Inner().SetKid(nil, 0, node.Bucket()), false},
		} {
			if got := shape.Canon(h.Hasher, c.n); got != c.want {
				t.Errorf("%s, %s: got %v", h.name, c.what, got)
			}
		}
	}
}

// P7.2: Canon is for the given hasher.
func TestCanonOfAnother(t *testing.T) {
	for _, h := range hashers() {
		for _, other := range hashers() {
			for _, n := range []int{0, 1, 2, 50} {
				root := trie(h.Hasher, nil, keys(n)...)
				mine := trie(other.Hasher, nil, keys(n)...)
				if got := shape.Canon(other.Hasher, root); got != shape.Same(root, mine) {
					t.Errorf("%s, by %s, %d: got %v", other.name, h.name, n, got)
				}
			}
		}
	}
}

// path returns the nodes to which a hash leads, from the root on.
func path(root *node.Node, hash uint64) []*node.Node {
	l := []*node.Node{root}
	for level := 0; ; level++ {
		kid, ok := l[level].Kid(chunk.At(hash, level))
		if !ok {
			return l
		}
		l = append(l, kid)
	}
}

// bent returns the trie with another node instead of the one at a level of the
// path to which a hash leads.
func bent(root *node.Node, hash uint64, level int, by func(n *node.Node) *node.Node) *node.Node {
	nodes := path(root, hash)
	n := by(nodes[level])
	for l := level - 1; l >= 0; l-- {
		n = nodes[l].SetKid(nil, chunk.At(hash, l), n)
	}
	return n
}

// leadsElsewhere returns keys whose hashes agree with one in the chunks ahead of
// a level, and differ in the chunk of that level.
func leadsElsewhere(h sip.Hasher, hash uint64, level int) []string {
	var l []string
	for _, key := range keys(3000) {
		other, agree := h.Hash(key), true
		for i := range level {
			agree = agree && chunk.At(other, i) == chunk.At(hash, i)
		}
		if agree && chunk.At(other, level) != chunk.At(hash, level) {
			l = append(l, key)
		}
	}
	return l
}

// P7.2: at each level down to the bucket, a node that should be otherwise.
func TestCanonBent(t *testing.T) {
	h := sip.Hasher{}
	root := trie(h, nil, "a", "b", "c")
	if len(path(root, 0)) != 14 || !shape.Canon(h, root) {
		t.Fatal("no bucket")
	}
	for level := range 14 {
		bad := map[string]*node.Node{
			"an empty inner node":    node.Inner(),
			"an empty bucket":        node.Bucket(),
			"an inner node of one":   node.Inner().SetPair(nil, 0, of("a")),
			"a bucket of one":        node.Bucket().Put(nil, of("a")),
			"a pair twice":           node.Inner().SetPair(nil, 0, of("a")).SetPair(nil, 1, of("a")),
			"a pair elsewhere":       node.Inner().SetPair(nil, 0, of("a")).SetPair(nil, 1, of("b")),
			"an empty child":         node.Inner().SetKid(nil, 0, node.Inner()),
			"an empty child as well": node.Inner().SetPair(nil, 0, of("a")).SetKid(nil, 1, node.Inner()),
			"a child of one":         node.Inner().SetKid(nil, 0, node.Inner().SetPair(nil, 0, of("a"))),
			"a child elsewhere":      node.Inner().SetKid(nil, 1, path(root, 0)[min(level+1, 13)]),
			"a child twice":          node.Inner().SetKid(nil, 0, path(root, 0)[min(level+1, 13)]).SetKid(nil, 1, path(root, 0)[min(level+1, 13)]),
		}
		if level < 13 {
			bad["a bucket of two"] = node.Bucket().Put(nil, of("a")).Put(nil, of("b"))
			bad["no bucket below"] = node.Inner().SetKid(nil, 0, node.Inner().SetKid(nil, 0, node.Inner()))
		} else {
			bad["no bucket"] = node.Inner().SetPair(nil, 0, of("a")).SetKid(nil, 1, path(root, 0)[13])
		}
		if level == 0 { // a trie of one pair, and one of none
			delete(bad, "an inner node of one")
			delete(bad, "an empty inner node")
		}
		for what, n := range bad {
			if shape.Canon(h, bent(root, 0, level, func(*node.Node) *node.Node { return n })) {
				t.Errorf("level %d: %s: true", level, what)
			}
		}
	}
	two := bent(root, 0, 13, func(n *node.Node) *node.Node { return n.Drop(nil, "c") })
	one := bent(two, 0, 13, func(n *node.Node) *node.Node { return n.Drop(nil, "b") })
	none := bent(one, 0, 13, func(n *node.Node) *node.Node { return n.Drop(nil, "a") })
	if !shape.Canon(h, two) || shape.Canon(h, one) || shape.Canon(h, none) {
		t.Error("a bucket of two, one, none")
	}
}

// P7.2: in a bucket, a pair that is not where its hash leads, though the chunks
// of all other levels are right.
func TestCanonMisplacedInBucket(t *testing.T) {
	for level := range 13 {
		h := sip.Hasher{Mask: 31 << (5 * level)}
		hash := h.Hash("a")
		wrong := leadsElsewhere(h, hash, level)
		i := slices.IndexFunc(keys(3000), func(key string) bool { return h.Hash(key) == hash })
		root := trie(h, nil, "a", keys(3000)[i])
		if len(path(root, hash)) != 14 || !shape.Canon(h, root) {
			t.Fatalf("level %d: no trie", level)
		}
		n := bent(root, hash, 13, func(n *node.Node) *node.Node { return n.Put(nil, of(wrong[0])) })
		if shape.Canon(h, n) {
			t.Errorf("level %d: true", level)
		}
		here := bent(root, hash, level, func(n *node.Node) *node.Node {
			return n.SetPair(nil, chunk.At(h.Hash(wrong[0]), level), of(wrong[0]))
		})
		if !shape.Canon(h, here) {
			t.Errorf("level %d: false where the hash leads", level)
		}
	}
}

// P7.2: in an inner node, a pair that is not where its hash leads, though it is
// in the chunk of that level, and the chunks of all other levels are right.
func TestCanonMisplacedInInner(t *testing.T) {
	for level := range 12 {
		for at := level + 1; at < 13; at++ {
			h := sip.Hasher{Mask: 31<<(5*level) | 31<<(5*at)}
			hash := h.Hash("a")
			second := ""
			for _, key := range leadsElsewhere(h, hash, at) {
				second = key
			}
			root := trie(h, nil, "a", second)
			if len(path(root, hash)) != at+1 || !shape.Canon(h, root) {
				t.Fatalf("levels %d, %d: no trie", level, at)
			}
			tried := 0
			for _, key := range leadsElsewhere(h, hash, level) {
				i := chunk.At(h.Hash(key), at)
				if path(root, hash)[at].Data().Has(i) {
					continue
				}
				tried++
				if shape.Canon(h, bent(root, hash, at, func(n *node.Node) *node.Node { return n.SetPair(nil, i, of(key)) })) {
					t.Fatalf("levels %d, %d: %s: true", level, at, key)
				}
			}
			if tried == 0 {
				t.Fatalf("levels %d, %d: nothing tried", level, at)
			}
		}
	}
}

// P7.2: a key that occurs twice: at two levels of its own path, in two chunks,
// and in a bucket and above it.
func TestCanonTwice(t *testing.T) {
	for _, h := range hashers() {
		root := trie(h.Hasher, nil, keys(15)...)
		for _, p := range pairs(root) {
			for level, n := range path(root, h.Hash(p.Key)) {
				for i := range 32 {
					if _, taken := n.Kid(i); taken || n.IsBucket() {
						continue
					}
					if q, taken := n.Pair(i); taken && q.Key == p.Key {
						continue
					}
					twice := bent(root, h.Hash(p.Key), level, func(n *node.Node) *node.Node { return n.SetPair(nil, i, p) })
					if shape.Canon(h.Hasher, twice) {
						t.Fatalf("%s: %s also at level %d, chunk %d", h.name, p.Key, level, i)
					}
				}
			}
		}
	}
}

// P7.2: of all the changes of one thing in a trie, Canon is true exactly for
// those that make the trie of the pairs.
func TestCanonChanges(t *testing.T) {
	for _, h := range hashers() {
		root := trie(h.Hasher, nil, keys(9)...)
		other, _ := root.Kid(chunk.At(h.Hash("key 1"), 0))
		for _, key := range []string{"key 1", "more"} {
			nodes := path(root, h.Hash(key))
			for level := range nodes {
				for i := range 32 {
					for _, by := range []func(n *node.Node) *node.Node{
						func(n *node.Node) *node.Node { return n.SetPair(nil, i, of(key)) },
						func(n *node.Node) *node.Node { return n.SetKid(nil, i, other) },
						func(n *node.Node) *node.Node { return n.Clear(nil, i) },
						func(n *node.Node) *node.Node { return n.Put(nil, of(key+strconv.Itoa(i))) },
						func(n *node.Node) *node.Node { return n.Drop(nil, keys(9)[i%9]) },
					} {
						changed := bent(root, h.Hash(key), level, by)
						var l []string
						for _, p := range pairs(changed) {
							l = append(l, p.Key)
						}
						if got := shape.Canon(h.Hasher, changed); got != shape.Same(changed, trie(h.Hasher, nil, l...)) {
							t.Fatalf("%s: %s, level %d, chunk %d: got %v", h.name, key, level, i, got)
						}
					}
				}
			}
		}
	}
}

// P7.2: only keys lead somewhere; values may be any.
func TestCanonTexts(t *testing.T) {
	for _, h := range hashers() {
		root := champ.Empty()
		for i, key := range odd {
			root, _ = champ.Put(h.Hasher, nil, root, pair.Pair{Key: key, Value: odd[len(odd)-1-i]})
		}
		if !shape.Canon(h.Hasher, root) {
			t.Errorf("%s: false", h.name)
		}
	}
}

// P7.1 and P7.2: tries with about 2^16 paths.
func TestManyPaths(t *testing.T) {
	_, by := takes(t, 1)
	h := sip.Full(sip.Key{K0: 1})
	l := keys(100000)
	root := trie(h, by[0], l...)
	slices.Reverse(l)
	if !shape.Canon(h, root) || !shape.Same(root, trie(h, by[0], l...)) {
		t.Error("two tries of one map")
	}
	other, _ := champ.Put(h, nil, root, pair.Pair{Key: l[500], Value: "new"})
	if shape.Same(root, other) || !shape.Canon(h, other) {
		t.Error("another value")
	}
	shared := node.Bucket()
	for range 13 {
		shared = node.Inner().SetKid(nil, 0, shared).SetKid(nil, 1, shared)
	}
	if got := len(shape.Of(shared)); got != 9*(1<<13-1)+3*(1<<13) {
		t.Errorf("2^13 paths: got %d", got)
	}
}

// P1: nodes below themselves, and deep ones: every call ends, and none panics.
func TestNoTries(t *testing.T) {
	_, by := takes(t, 1)
	bare := node.Inner().Clear(by[0], 0)
	bare.SetKid(by[0], 0, bare)
	loop := node.Inner().SetPair(by[0], 31, of("a"))
	loop.SetKid(by[0], 0, loop)
	two := node.Inner().SetKid(by[0], 0, loop)
	two.SetKid(by[0], 1, two)
	wide := node.Inner().SetPair(by[0], 31, of("a")) // it has more paths than are promised for Of and Same
	for i := range 31 {
		wide.SetKid(by[0], i, wide)
	}
	for _, n := range append(several(), bare, loop, two, chain(13), chain(14), chain(15), chain(3000)) {
		check(t, "no trie", n)
		shape.Same(n, loop)
		shape.Same(nil, n)
		if !shape.Same(n, n) {
			t.Error("not the same as itself")
		}
	}
	for _, h := range hashers() {
		for _, n := range several() {
			shape.Canon(h.Hasher, n)
		}
		for _, n := range []*node.Node{bare, loop, two, wide, chain(13), chain(14), chain(3000)} {
			if shape.Canon(h.Hasher, n) {
				t.Errorf("%s: true", h.name)
			}
		}
	}
}

// P2: the same calls have the same results.
func TestSameCalls(t *testing.T) {
	for _, h := range hashers() {
		root := trie(h.Hasher, nil, keys(60)...)
		first := shape.Of(root)
		for range 3 {
			shape.Of(chain(20))
			shape.Text(first, "more")
			if !bytes.Equal(shape.Of(root), first) || !shape.Canon(h.Hasher, root) || !shape.Same(root, root) {
				t.Errorf("%s: another result", h.name)
			}
		}
	}
}
