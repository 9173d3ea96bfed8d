package gauge_test

import (
	"math"
	"math/big"
	"slices"
	"strconv"
	"strings"
	"testing"

	"quickset/api"
	"quickset/champ"
	"quickset/gauge"
	"quickset/node"
	"quickset/pair"
	"quickset/sip"
	"quickset/token"
)

// odd are keys and values of any bytes and any length, also longer than the
// limits of later layers.
var odd = []string{"", "\x00", "\x00\x00", "a", "ab", "b", "\n", "\x80", "\xc3\xa9", "\xff", "\xff\xff", strings.Repeat("k", 256), strings.Repeat("v", 4097), strings.Repeat("w", 70000)}

type named struct {
	name string
	sip.Hasher
}

// hashers are some whose hashes share no chunks in particular, and some whose
// hashes share the chunks of some levels, or of all.
func hashers() []named {
	masked := func(mask uint64) sip.Hasher { return sip.Hasher{Key: sip.Key{K0: 3}, Mask: mask} }
	return []named{
		{"all bits", sip.Full(sip.Key{K1: 5})},
		{"no bits", masked(0)},
		{"bit 0", masked(1)},
		{"bits of level 0", masked(0x1f)},
		{"bits of levels 0 and 6", masked(3 | 3<<30)},
		{"the last level", masked(0xf << 60)},
		{"bit 63", masked(1 << 63)},
		{"a bit of each level", masked(0x1084210842108421)},
		{"from level 5 on", masked(^uint64(1<<25 - 1))},
	}
}

func keys(n int) []string {
	var l []string
	for i := range n {
		l = append(l, "key "+strconv.Itoa(i*7919%n))
	}
	return l
}

// lists are lists of keys: none, one, some, many, and odd ones.
func lists() [][]string {
	return [][]string{nil, {""}, {"a"}, {"a", "b"}, {"c", "b", "a"}, keys(12), keys(33), keys(400), odd}
}

// of is a pair whose value has another length than its key.
func of(key string) pair.Pair {
	return pair.Pair{Key: key, Value: "<" + key[len(key)/2:] + ">"}
}

func trie(h sip.Hasher, by *token.Token, l ...string) *node.Node {
	root := champ.Empty()
	for _, key := range l {
		root, _ = champ.Put(h, by, root, of(key))
	}
	return root
}

func take(t *testing.T) *token.Token {
	t.Helper()
	pool, err := token.New(1)
	if err != api.OK {
		t.Fatal(err)
	}
	by, err := pool.Take()
	if err != api.OK {
		t.Fatal(err)
	}
	return by
}

// groups are how many keys have a hash with the same chunks, up to a level.
func groups(h sip.Hasher, level int, l []string) map[uint64]int {
	m := map[uint64]int{}
	for _, key := range l {
		m[h.Hash(key)&(1<<(5*level)-1)]++
	}
	return m
}

// rows are the numbers of nodes of the levels of the trie that keys have (P6.1):
// below the root, there is one for each beginning of hashes that several have.
func rows(h sip.Hasher, l []string) []int {
	counts := []int{1}
	for level := 1; level <= 13; level++ {
		count := 0
		for _, n := range groups(h, level, l) {
			if n > 1 {
				count++
			}
		}
		if count == 0 {
			break
		}
		counts = append(counts, count)
	}
	return counts
}

// stats are the definition of Of for the trie that keys have.
func stats(h sip.Hasher, l []string) gauge.Stats {
	s := gauge.Stats{Pairs: len(l)}
	counts := rows(h, l)
	s.Depth = len(counts)
	for _, n := range counts {
		s.Nodes += n
	}
	for _, n := range groups(h, 13, l) {
		if n > 1 {
			s.Buckets++
			s.Most = max(s.Most, n)
		}
	}
	return s
}

// each calls a test for the trie of each list of keys, for each hasher.
func each(f func(what string, h sip.Hasher, root *node.Node, l []string)) {
	for _, h := range hashers() {
		for _, l := range lists() {
			f(h.name+", "+strconv.Itoa(len(l))+" keys", h.Hasher, trie(h.Hasher, nil, l...), l)
		}
	}
}

// P9.1: the example of the document, no trie, and tries written out.
func TestOfEdges(t *testing.T) {
	h := sip.Hasher{}
	full := sip.Full(sip.Key{})
	for _, c := range []struct {
		what string
		root *node.Node
		want gauge.Stats
	}{
		{"two alike in all chunks", trie(h, nil, "a", "b"), gauge.Stats{Nodes: 14, Buckets: 1, Pairs: 2, Depth: 14, Most: 2}},
		{"many alike in all chunks", trie(h, nil, keys(500)...), gauge.Stats{Nodes: 14, Buckets: 1, Pairs: 500, Depth: 14, Most: 500}},
		{"nil", nil, gauge.Stats{}},
		{"no pairs", champ.Empty(), gauge.Stats{Nodes: 1, Depth: 1}},
		{"one pair", trie(h, nil, "a"), gauge.Stats{Nodes: 1, Pairs: 1, Depth: 1}},
		{"one pair, all bits", trie(full, nil, ""), gauge.Stats{Nodes: 1, Pairs: 1, Depth: 1}},
	} {
		if got := gauge.Of(c.root); got != c.want {
			t.Errorf("%s: got %v, want %v", c.what, got, c.want)
		}
	}
}

// P9.1: tries of all hashers.
func TestOf(t *testing.T) {
	each(func(what string, h sip.Hasher, root *node.Node, l []string) {
		if got, want := gauge.Of(root), stats(h, l); got != want {
			t.Errorf("%s: got %v, want %v", what, got, want)
		}
	})
}

// P9.1: several buckets, the largest of which counts, wherever it is, and as the
// trie changes.
func TestBuckets(t *testing.T) {
	h := sip.Hasher{Mask: 3}
	by := take(t)
	root := champ.Empty()
	var l []string
	for _, key := range keys(100) {
		l = append(l, key)
		root, _ = champ.Put(h, by, root, of(key))
		if got, want := gauge.Of(root), stats(h, l); got != want {
			t.Fatalf("%d keys: got %v, want %v", len(l), got, want)
		}
	}
	if got := gauge.Of(root); got.Buckets != 4 || got.Nodes != 53 || got.Most <= 25 {
		t.Errorf("got %v", got)
	}
	for len(l) > 0 {
		root, _ = champ.Drop(h, by, root, l[0])
		l = l[1:]
		if got, want := gauge.Of(root), stats(h, l); got != want {
			t.Fatalf("%d keys: got %v, want %v", len(l), got, want)
		}
	}
}

// P9.1: the nodes of each level.
func TestLevels(t *testing.T) {
	if l := gauge.Levels(nil); len(l) != 0 {
		t.Errorf("nil: got %v", l)
	}
	if l := gauge.Levels(champ.Empty()); !slices.Equal(l, []int{1}) {
		t.Errorf("no pairs: got %v", l)
	}
	if l := gauge.Levels(trie(sip.Hasher{}, nil, keys(9)...)); !slices.Equal(l, []int{1, 1, 1, 1, 1, 1, 1, 1, 1, 1, 1, 1, 1, 1}) {
		t.Errorf("alike in all chunks: got %v", l)
	}
	if l := gauge.Levels(trie(sip.Hasher{Mask: 1 | 1<<63}, nil, keys(99)...)); !slices.Equal(l, []int{1, 2, 2, 2, 2, 2, 2, 2, 2, 2, 2, 2, 2, 4}) {
		t.Errorf("two bits: got %v", l)
	}
	each(func(what string, h sip.Hasher, root *node.Node, l []string) {
		if got, want := gauge.Levels(root), rows(h, l); !slices.Equal(got, want) {
			t.Errorf("%s: got %v, want %v", what, got, want)
		}
	})
}

// Memory: the results of Levels share nothing.
func TestLevelsMemory(t *testing.T) {
	root := trie(sip.Hasher{Mask: 7}, nil, keys(50)...)
	one, two := gauge.Levels(root), gauge.Levels(root)
	clear(one[:cap(one)])
	if want := rows(sip.Hasher{Mask: 7}, keys(50)); !slices.Equal(two, want) || !slices.Equal(gauge.Levels(root), want) {
		t.Errorf("got %v", two)
	}
}

// collect is the definition of the nodes below a node, each once.
func collect(n *node.Node, m map[*node.Node]int) map[*node.Node]int {
	if n == nil || m[n] == 1 {
		return m
	}
	m[n] = 1
	for i := range 32 {
		if kid, ok := n.Kid(i); ok {
			collect(kid, m)
		}
	}
	return m
}

// fresh is the definition of Fresh.
func fresh(a, b *node.Node) int {
	old, count := collect(a, map[*node.Node]int{}), 0
	for n := range collect(b, map[*node.Node]int{}) {
		count += 1 - old[n]
	}
	return count
}

// P9.1: Fresh of a trie and itself, of nil, and of tries with equal nodes that
// are not identical.
func TestFreshEdges(t *testing.T) {
	if gauge.Fresh(nil, nil) != 0 {
		t.Error("nil and nil")
	}
	each(func(what string, h sip.Hasher, root *node.Node, l []string) {
		nodes := stats(h, l).Nodes
		equal := trie(h, nil, l...)
		for _, c := range []struct {
			what string
			a, b *node.Node
			want int
		}{
			{"itself", root, root, 0}, {"nil and a trie", nil, root, nodes}, {"a trie and nil", root, nil, 0},
			{"equal ones", root, equal, nodes}, {"an empty one", champ.Empty(), root, nodes}, {"of an empty one", root, champ.Empty(), 1},
		} {
			if got := gauge.Fresh(c.a, c.b); got != c.want {
				t.Errorf("%s: %s: got %d, want %d", what, c.what, got, c.want)
			}
		}
	})
}

// path returns how many nodes of the trie that keys have a key's hash leads
// through.
func path(h sip.Hasher, l []string, key string) int {
	count := 1
	for level := 1; level <= 13; level++ {
		if groups(h, level, l)[h.Hash(key)&(1<<(5*level)-1)] > 1 {
			count++
		}
	}
	return count
}

// P9.1: Fresh of a trie and what was made of it: the nodes to which the changed
// key leads are others, and only they.
func TestFreshChanged(t *testing.T) {
	for _, h := range hashers() {
		l := keys(120)
		root := trie(h.Hasher, nil, l...)
		for i, key := range l[:40] {
			less := slices.Delete(slices.Clone(l), i, i+1)
			dropped, _ := champ.Drop(h.Hasher, nil, root, key)
			if got, want := gauge.Fresh(root, dropped), path(h.Hasher, less, key); got != want || fresh(root, dropped) != want {
				t.Fatalf("%s: dropped: got %d, want %d", h.name, got, want)
			}
			again, _ := champ.Put(h.Hasher, nil, dropped, of(key))
			other, _ := champ.Put(h.Hasher, nil, root, pair.Pair{Key: key, Value: "other"})
			want := path(h.Hasher, l, key)
			for _, two := range [][2]*node.Node{{dropped, again}, {root, again}, {root, other}, {other, root}} {
				if got := gauge.Fresh(two[0], two[1]); got != want || fresh(two[0], two[1]) != want {
					t.Fatalf("%s: put: got %d, want %d", h.name, got, want)
				}
			}
			same, _ := champ.Put(h.Hasher, nil, root, of(key))
			if got := gauge.Fresh(root, same); got != 0 {
				t.Fatalf("%s: not changed: got %d", h.name, got)
			}
		}
	}
}

// P9.1: Fresh of several changes, of part of a trie, and of one that was changed
// in place.
func TestFresh(t *testing.T) {
	for _, h := range hashers() {
		root := trie(h.Hasher, nil, keys(150)...)
		var versions []*node.Node
		now := root
		for i := range 30 {
			now, _ = champ.Put(h.Hasher, nil, now, of("new "+strconv.Itoa(i)))
			versions = append(versions, now)
			now, _ = champ.Drop(h.Hasher, nil, now, keys(150)[i*3])
			versions = append(versions, now)
		}
		for i, a := range versions {
			for _, b := range []*node.Node{root, versions[len(versions)-1-i], versions[i/2]} {
				if got, want := gauge.Fresh(a, b), fresh(a, b); got != want {
					t.Fatalf("%s: got %d, want %d", h.name, got, want)
				}
			}
		}
		nodes := gauge.Of(root).Nodes
		for _, kid := range root.Kids() {
			below := gauge.Of(kid).Nodes
			if gauge.Fresh(root, kid) != 0 || gauge.Fresh(kid, root) != nodes-below {
				t.Fatalf("%s: got %d for one with %d nodes of %d", h.name, gauge.Fresh(kid, root), below, nodes)
			}
		}
		by := take(t)
		own := trie(h.Hasher, by, keys(40)...)
		if more, _ := champ.Put(h.Hasher, by, own, pair.Pair{Key: "key 1", Value: "other"}); gauge.Fresh(own, more) != 0 {
			t.Errorf("%s: changed in place: got %d", h.name, gauge.Fresh(own, more))
		}
	}
}

// P9.1: each identical node is counted once, at however many places it is.
func TestFreshOnce(t *testing.T) {
	bucket := node.Bucket().Put(nil, of("a"))
	equal := node.Bucket().Put(nil, of("a"))
	two := node.Inner().SetKid(nil, 0, bucket).SetKid(nil, 1, bucket)
	four := node.Inner().SetKid(nil, 5, two).SetKid(nil, 6, two)
	for _, c := range []struct {
		a, b *node.Node
		want int
	}{
		{nil, two, 2}, {nil, four, 3}, {two, four, 1}, {four, two, 0}, {bucket, four, 2}, {equal, four, 3}, {four, node.Inner().SetKid(nil, 0, equal), 2},
	} {
		if got := gauge.Fresh(c.a, c.b); got != c.want {
			t.Errorf("got %d, want %d", got, c.want)
		}
	}
}

// folds are the definitions of the ops. The sum of Mixed is the whole one.
func folds(l []pair.Pair) [6]*big.Int {
	var sums [6]*big.Int
	for i := range sums {
		sums[i] = new(big.Int)
	}
	add := func(i int, n uint64) { sums[i].Add(sums[i], new(big.Int).SetUint64(n)) }
	most := func(i, n int) { sums[i].SetInt64(max(sums[i].Int64(), int64(n))) }
	for _, p := range l {
		add(0, 1)
		add(1, uint64(len(p.Key)))
		add(2, uint64(len(p.Value)))
		most(3, len(p.Key))
		most(4, len(p.Value))
		add(5, sip.Sum(sip.Key{K0: 0, K1: 0}, p.Key))
		for range 3 {
			add(5, sip.Sum(sip.Key{K0: 0, K1: 0}, p.Value))
		}
	}
	return sums
}

// modulo returns the lowest 64 bits, and whether there are others.
func modulo(n *big.Int) (uint64, bool) {
	all := new(big.Int).SetUint64(math.MaxUint64)
	return new(big.Int).And(n, all).Uint64(), n.Cmp(all) > 0
}

func pairsOf(l []string) []pair.Pair {
	var out []pair.Pair
	for _, key := range l {
		out = append(out, of(key))
	}
	return out
}

// P9.2: every op, of tries of all hashers. The hasher does not matter.
func TestFold(t *testing.T) {
	each(func(what string, h sip.Hasher, root *node.Node, l []string) {
		for op, sum := range folds(pairsOf(l)) {
			want, beyond := modulo(sum)
			if got, ok := gauge.Fold(op, root); got != want || !ok {
				t.Errorf("%s: op %d: got %d, %v, want %d", what, op, got, ok, want)
			}
			if op == gauge.Mixed && len(l) > 10 && !beyond {
				t.Errorf("%s: no sum beyond 2^64", what)
			}
		}
	})
}

// P9.2: Mixed of single pairs, whose sums are, or are not, beyond 2^64; the key
// and the value do not count the same.
func TestMixed(t *testing.T) {
	h := sip.Full(sip.Key{K0: 1})
	count := map[bool]int{}
	for i := range 100 {
		p := pair.Pair{Key: strconv.Itoa(i), Value: strconv.Itoa(i * i)}
		root, _ := champ.Put(h, nil, nil, p)
		want, beyond := modulo(folds([]pair.Pair{p})[5])
		count[beyond]++
		if got, ok := gauge.Fold(gauge.Mixed, root); got != want || !ok {
			t.Errorf("%v: got %d, want %d", p, got, want)
		}
	}
	if count[true] == 0 || count[false] == 0 {
		t.Errorf("got %v", count)
	}
	// The sum of no bytes, with a key of zeros.
	const empty = 0x1e924b9d737700d7
	want := uint64(empty)
	want *= 4
	root, _ := champ.Put(h, nil, nil, pair.Pair{})
	if got, _ := gauge.Fold(gauge.Mixed, root); got != want {
		t.Errorf("an empty key and value: got %x, want %x", got, want)
	}
}

// P9.2: the longest key and the longest value can be of different pairs, and
// anywhere in a trie.
func TestLongest(t *testing.T) {
	for _, h := range hashers() {
		l := keys(40)
		for i, key := range l {
			root := trie(h.Hasher, nil, l...)
			root, _ = champ.Put(h.Hasher, nil, root, pair.Pair{Key: strings.Repeat("k", 300) + key})
			root, _ = champ.Put(h.Hasher, nil, root, pair.Pair{Key: key, Value: strings.Repeat("v", 5000+i)})
			longest, _ := gauge.Fold(gauge.Longest, root)
			widest, _ := gauge.Fold(gauge.Widest, root)
			if longest != uint64(300+len(key)) || widest != uint64(5000+i) {
				t.Fatalf("%s: got %d and %d", h.name, longest, widest)
			}
		}
	}
}

// P9.2: no trie, and one without pairs.
func TestFoldNothing(t *testing.T) {
	for op := range 6 {
		for _, root := range []*node.Node{nil, champ.Empty()} {
			if got, ok := gauge.Fold(op, root); got != 0 || !ok {
				t.Errorf("op %d: got %d, %v", op, got, ok)
			}
		}
	}
}

// P9.2: ops that there are not.
func TestNoOps(t *testing.T) {
	for _, op := range []int{-1, 6, 7, -6, 256, 1 << 32, math.MinInt, math.MaxInt} {
		for _, root := range []*node.Node{nil, champ.Empty(), trie(sip.Hasher{}, nil, "a", "b")} {
			if got, ok := gauge.Fold(op, root); got != 0 || ok {
				t.Errorf("Fold %d: got %d, %v", op, got, ok)
			}
		}
		if got := gauge.Name(op); got != "" {
			t.Errorf("Name %d: got %q", op, got)
		}
	}
}

// P9.2: the ops' numbers and names.
func TestNames(t *testing.T) {
	ops := []int{gauge.Count, gauge.Keys, gauge.Values, gauge.Longest, gauge.Widest, gauge.Mixed}
	for i, want := range []string{"count", "keys", "values", "longest", "widest", "mixed"} {
		if got := gauge.Name(i); got != want || ops[i] != i {
			t.Errorf("%d: got %q, want %q", i, got, want)
		}
	}
}

// noTries are nodes that are no tries: a bucket alone, nodes deeper than tries
// are, nodes below themselves in one chunk and in all, and nodes that are below
// many others, with pairs and without.
func noTries(by *token.Token) []*node.Node {
	bucket := node.Bucket().Put(nil, of("a")).Put(nil, of("b"))
	l := []*node.Node{node.Bucket(), bucket, node.Inner().SetKid(nil, 9, node.Inner()), node.Inner().SetKid(nil, 0, bucket)}
	for _, end := range []*node.Node{node.Inner(), bucket} {
		deep, wide := end, end
		for range 100 {
			deep = node.Inner().SetKid(nil, 0, deep)
			upper := node.Inner()
			for i := range 32 {
				upper = upper.SetKid(nil, i, wide)
			}
			wide = upper
		}
		l = append(l, deep, wide, wide.SetPair(nil, 3, of("c")))
	}
	for _, chunks := range []int{1, 2, 31, 32} {
		loop := node.Inner().SetPair(by, 31, of("a"))
		for i := range chunks {
			loop.SetKid(by, i, loop)
		}
		l = append(l, loop, node.Inner().SetKid(nil, 0, loop))
	}
	return l
}

// P1: every call ends, and none panics, for nodes that are no tries; and what
// they return fits together.
func TestNoTries(t *testing.T) {
	l := noTries(take(t))
	for i, root := range l {
		s, sum := gauge.Of(root), 0
		for _, n := range gauge.Levels(root) {
			sum += n
		}
		if sum != s.Nodes || s.Nodes != fresh(nil, root) || s.Depth != len(gauge.Levels(root)) {
			t.Errorf("%d: got %v, and %d nodes of %d levels", i, s, sum, len(gauge.Levels(root)))
		}
		for op := -1; op <= 6; op++ {
			if _, ok := gauge.Fold(op, root); ok != (op >= 0 && op <= 5) {
				t.Errorf("%d: op %d: got %v", i, op, ok)
			}
		}
		for j, other := range l {
			if got := gauge.Fresh(other, root); got != fresh(other, root) {
				t.Errorf("%d and %d: got %d", j, i, got)
			}
		}
	}
}

// P2: the results depend on nothing but the trie: not on its history, nor on who
// owns its nodes, nor on other calls.
func TestSameCalls(t *testing.T) {
	for _, h := range hashers() {
		want := trie(h.Hasher, nil, keys(90)...)
		got := trie(h.Hasher, take(t), append(keys(90), odd...)...)
		for _, key := range odd {
			got, _ = champ.Drop(h.Hasher, nil, got, key)
		}
		for range 5 {
			if gauge.Of(got) != gauge.Of(want) || !slices.Equal(gauge.Levels(got), gauge.Levels(want)) {
				t.Fatalf("%s: got %v", h.name, gauge.Of(got))
			}
			for op := range 6 {
				a, _ := gauge.Fold(op, got)
				b, _ := gauge.Fold(op, want)
				if a != b {
					t.Fatalf("%s: op %d: got %d, want %d", h.name, op, a, b)
				}
			}
		}
	}
}

// P9.1, P9.2: a trie of many pairs.
func TestMany(t *testing.T) {
	l := keys(20000)
	for _, h := range []sip.Hasher{sip.Full(sip.Key{}), {Mask: 0x3ff}} {
		root := trie(h, take(t), l...)
		if got, want := gauge.Of(root), stats(h, l); got != want {
			t.Errorf("got %v, want %v", got, want)
		}
		for op, sum := range folds(pairsOf(l)) {
			want, _ := modulo(sum)
			if got, _ := gauge.Fold(op, root); got != want {
				t.Errorf("op %d: got %d, want %d", op, got, want)
			}
		}
	}
}
