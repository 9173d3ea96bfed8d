package champ_test

import (
	"maps"
	"slices"
	"strconv"
	"strings"
	"testing"

	"quickset/api"
	"quickset/champ"
	"quickset/chunk"
	"quickset/node"
	"quickset/pair"
	"quickset/sip"
	"quickset/token"
)

// odd are keys and values of any bytes and any length, also longer than the
// limits of later layers.
var odd = []string{"", "\x00", "\x00\x00", "a", "a\x00", "ab", "b", "\n", "\x7f", "\x80", "\xc3\xa9", "\xc3", "\xff", "\xff\xff", strings.Repeat("k", api.MaxKey), strings.Repeat("k", api.MaxKey+1), strings.Repeat("v", api.MaxValue+1), strings.Repeat("\x00", 9000)}

type named struct {
	name string
	sip.Hasher
}

// hashers are some whose hashes share no chunks in particular, and some whose
// hashes share the chunks of some levels, or of all.
func hashers() []named {
	key := sip.Key{K0: 0x0706050403020100, K1: 0x0f0e0d0c0b0a0908}
	masked := func(mask uint64) sip.Hasher { return sip.Hasher{Key: key, Mask: mask} }
	return []named{
		{"all bits", sip.Full(key)},
		{"all bits, another key", sip.Full(sip.Key{})},
		{"zero", sip.Hasher{}},
		{"no bits", masked(0)},
		{"bit 0", masked(1)},
		{"bit 63", masked(1 << 63)},
		{"bits of levels 0 and 6", masked(3 | 3<<30)},
		{"level 0", masked(0x1f)},
		{"level 1", masked(0x3e0)},
		{"the last level", masked(0xf << 60)},
		{"bits of levels 3, 7 and 12", masked(1<<15 | 3<<36 | 1<<61)},
		{"a bit of each level", masked(0x1084210842108421)},
		{"from level 1 on", masked(^uint64(0x1f))},
		{"from level 5 on", masked(^uint64(1<<25 - 1))},
	}
}

func of(key string) pair.Pair {
	return pair.Pair{Key: key, Value: "<" + key + ">"}
}

// keys are n keys in an order that is that of neither their bytes nor their
// hashes.
func keys(n int) []string {
	var l []string
	for i := range n {
		l = append(l, "key "+strconv.Itoa(i*7919%n))
	}
	return l
}

func pairsOf(m map[string]string) []pair.Pair {
	var l []pair.Pair
	for _, key := range slices.Sorted(maps.Keys(m)) {
		l = append(l, pair.Pair{Key: key, Value: m[key]})
	}
	return l
}

// takes returns a pool of n tokens that are all out.
func takes(t *testing.T, n int) (*token.Pool, []*token.Token) {
	t.Helper()
	p, err := token.New(n)
	if err != api.OK {
		t.Fatal(err)
	}
	var l []*token.Token
	for range n {
		x, err := p.Take()
		if err != api.OK {
			t.Fatal(err)
		}
		l = append(l, x)
	}
	return p, l
}

// wrong tells what a node at a level has that the trie of the pairs (P6.1),
// which are in increasing order, does not have, or the other way round; nothing
// if it is that trie.
func wrong(h sip.Hasher, n *node.Node, level int, l []pair.Pair) string {
	where := "level " + strconv.Itoa(level) + ": "
	if n == nil || n.IsBucket() != (level == 13) {
		return where + "not the kind of node"
	}
	if level == 13 {
		if !slices.Equal(n.Pairs(), l) {
			return where + "other pairs in the bucket"
		}
		return ""
	}
	var by [32][]pair.Pair
	for _, p := range l {
		i := h.Hash(p.Key) >> (5 * level) & 31
		by[i] = append(by[i], p)
	}
	for i, l := range by {
		p, isPair := n.Pair(i)
		kid, isKid := n.Kid(i)
		if isPair != (len(l) == 1) || isKid != (len(l) > 1) || isPair && p != l[0] {
			return where + "chunk " + strconv.Itoa(i) + " for " + strconv.Itoa(len(l)) + " pairs"
		}
		if !isKid {
			continue
		}
		if s := wrong(h, kid, level+1, l); s != "" {
			return s
		}
	}
	return ""
}

// check holds a trie against the map that it is to have: its form, its number of
// pairs, and its values.
func check(t *testing.T, what string, h sip.Hasher, root *node.Node, m map[string]string) {
	t.Helper()
	if s := wrong(h, root, 0, pairsOf(m)); s != "" {
		t.Fatalf("%s: %s", what, s)
	}
	if got := champ.Len(root); got != len(m) {
		t.Fatalf("%s: Len: got %d, want %d", what, got, len(m))
	}
	for key, want := range m {
		if got, ok := champ.Get(h, root, key); got != want || !ok {
			t.Fatalf("%s: Get of %.20q: got %.20q, %v", what, key, got, ok)
		}
		for _, none := range []string{key + "\x00", "\x00" + key, "no " + key} {
			if _, there := m[none]; there {
				continue
			}
			if got, ok := champ.Get(h, root, none); got != "" || ok {
				t.Fatalf("%s: Get of %.20q: got %.20q, %v", what, none, got, ok)
			}
		}
	}
}

// held is what a node has, without what its children have.
type held struct {
	bucket      bool
	data, nodes chunk.Bits
	pairs       []pair.Pair
	kids        []*node.Node
}

func (a held) is(b held) bool {
	return a.bucket == b.bucket && a.data == b.data && a.nodes == b.nodes && slices.Equal(a.pairs, b.pairs) && slices.Equal(a.kids, b.kids)
}

func holds(n *node.Node) held {
	return held{n.IsBucket(), n.Data(), n.Nodes(), n.Pairs(), n.Kids()}
}

// below returns the nodes of a trie, with what each has.
func below(root *node.Node) map[*node.Node]held {
	m := map[*node.Node]held{}
	todo := []*node.Node{root}
	for len(todo) > 0 {
		n := todo[len(todo)-1]
		todo = todo[:len(todo)-1]
		if _, again := m[n]; again || n == nil {
			continue
		}
		m[n] = holds(n)
		todo = append(todo, n.Kids()...)
	}
	return m
}

// fresh returns how many nodes of the result were not in the trie before.
func fresh(before map[*node.Node]held, result *node.Node) int {
	count := 0
	for n := range below(result) {
		if _, old := before[n]; !old {
			count++
		}
	}
	return count
}

// guard is what P6.3 has to say of one call: made ahead of it, asked after it.
type guard struct {
	h      sip.Hasher
	by     *token.Token
	root   *node.Node
	m      map[string]string
	nodes  map[*node.Node]held
	owned  map[*node.Node]int // 1 if it is the token's
	others []*token.Token
}

func guarded(h sip.Hasher, by *token.Token, root *node.Node, m map[string]string, others ...*token.Token) guard {
	g := guard{h, by, root, maps.Clone(m), below(root), map[*node.Node]int{}, others}
	for n := range g.nodes {
		if n.Owned(by) {
			g.owned[n] = 1
		}
	}
	return g
}

// same checks that nothing at all was changed or made.
func (g guard) same(t *testing.T, what string, result *node.Node) {
	t.Helper()
	if g.root != nil && result != g.root {
		t.Fatalf("%s: not root itself", what)
	}
	for n, before := range g.nodes {
		if !holds(n).is(before) || n.Owned(g.by) != (g.owned[n] == 1) {
			t.Fatalf("%s: a node has changed", what)
		}
	}
}

// changed checks that only what the token owns was changed, that everything new
// is the token's, and that there is not too much of it.
func (g guard) changed(t *testing.T, what string, result *node.Node) {
	t.Helper()
	for n, before := range g.nodes {
		if g.owned[n] == 0 && !holds(n).is(before) {
			t.Fatalf("%s: a node that is not owned has changed", what)
		}
		if n.Owned(g.by) != (g.owned[n] == 1) {
			t.Fatalf("%s: an old node has another owner", what)
		}
	}
	if got := fresh(g.nodes, result); got > 14 {
		t.Fatalf("%s: %d new nodes", what, got)
	}
	for n := range below(result) {
		if _, old := g.nodes[n]; old {
			continue
		}
		if n.Owned(g.by) != g.by.Live() || n.Owned(nil) {
			t.Fatalf("%s: a new node is not the token's", what)
		}
		for _, x := range g.others {
			if x != g.by && n.Owned(x) {
				t.Fatalf("%s: a new node is another token's", what)
			}
		}
	}
	if g.root != nil && (result == g.root) != (g.owned[g.root] == 1) {
		t.Fatalf("%s: root itself: %v", what, result == g.root)
	}
	if g.root != nil && g.owned[g.root] == 0 {
		check(t, what+", the old trie", g.h, g.root, g.m)
	}
}

// The example of the document, in both orders.
func TestExample(t *testing.T) {
	for _, h := range hashers() {
		for _, first := range []string{"a", "b"} {
			root, one := champ.Put(h.Hasher, nil, champ.Empty(), of("a"))
			root, two := champ.Put(h.Hasher, nil, root, of("b"))
			root, three := champ.Drop(h.Hasher, nil, root, first)
			root, four := champ.Drop(h.Hasher, nil, root, string('a'+'b'-first[0]))
			if !one || !two || !three || !four {
				t.Fatalf("%s: got %v, %v, %v, %v", h.name, one, two, three, four)
			}
			check(t, h.name, h.Hasher, root, nil)
		}
	}
}

// P6.2: the trie without pairs is an inner node with nothing, that nobody owns.
func TestEmpty(t *testing.T) {
	_, by := takes(t, 1)
	a, b := champ.Empty(), champ.Empty()
	for _, h := range hashers() {
		check(t, h.name, h.Hasher, a, nil)
	}
	if a.IsBucket() || a.Len() != 0 || a.Owned(by[0]) || a.Owned(nil) {
		t.Error("not an empty inner node of nobody")
	}
	champ.Put(sip.Hasher{}, by[0], a, of("a"))
	check(t, "the other", sip.Hasher{}, b, nil)
	check(t, "itself", sip.Hasher{}, a, nil)
}

// P6.1 and P6.2: a nil root counts as the trie without pairs.
func TestNilRoot(t *testing.T) {
	pool, by := takes(t, 2)
	pool.End(by[1])
	for _, h := range hashers() {
		if champ.Len(nil) != 0 {
			t.Error("it has pairs")
		}
		for _, key := range odd {
			if v, ok := champ.Get(h.Hasher, nil, key); v != "" || ok {
				t.Errorf("%s: Get: got %q, %v", h.name, v, ok)
			}
			for _, with := range []*token.Token{nil, by[0], by[1]} {
				g := guarded(h.Hasher, with, nil, nil, by...)
				put, ok := champ.Put(h.Hasher, with, nil, of(key))
				if !ok {
					t.Errorf("%s: Put of %.20q: false", h.name, key)
				}
				check(t, h.name, h.Hasher, put, map[string]string{key: of(key).Value})
				g.changed(t, "Put", put)
				none, ok := champ.Drop(h.Hasher, with, nil, key)
				if ok {
					t.Errorf("%s: Drop of %.20q: true", h.name, key)
				}
				check(t, h.name, h.Hasher, none, nil)
				g.changed(t, "Drop", none)
			}
		}
	}
}

// P6.2: Get has no pair of another key, though its hash leads there, and no
// value beside false.
func TestGetOther(t *testing.T) {
	for _, h := range hashers() {
		m := map[string]string{}
		root := champ.Empty()
		for _, key := range keys(40) {
			if v, ok := champ.Get(h.Hasher, root, key); v != "" || ok {
				t.Fatalf("%s: %q: got %q, %v", h.name, key, v, ok)
			}
			root, _ = champ.Put(h.Hasher, nil, root, of(key))
			m[key] = of(key).Value
			check(t, h.name, h.Hasher, root, m)
		}
	}
}

// P6.1 and P6.2: keys and values of any bytes and any length.
func TestOddTexts(t *testing.T) {
	_, by := takes(t, 1)
	for _, h := range hashers() {
		for _, with := range []*token.Token{nil, by[0]} {
			m := map[string]string{}
			root := champ.Empty()
			for round := range 3 {
				for i, key := range odd {
					p := pair.Pair{Key: key, Value: odd[(i+round*5)%len(odd)]}
					_, was := m[key]
					next, ok := champ.Put(h.Hasher, with, root, p)
					if ok == was {
						t.Fatalf("%s: Put of %.20q: got %v", h.name, key, ok)
					}
					root, m[key] = next, p.Value
					check(t, h.name, h.Hasher, root, m)
				}
			}
			for i := range odd {
				key := odd[i*7%len(odd)]
				next, ok := champ.Drop(h.Hasher, with, root, key)
				if !ok {
					t.Fatalf("%s: Drop of %.20q: false", h.name, key)
				}
				delete(m, key)
				root = next
				check(t, h.name, h.Hasher, root, m)
			}
		}
	}
}

// P6.1: two keys whose hashes are equal in the chunks of the first levels have
// nodes with nothing but one child down to the level where they differ, and a
// bucket if they differ nowhere.
func TestSharedLevels(t *testing.T) {
	for levels := range 14 {
		h := sip.Hasher{Mask: ^uint64(0) << (5 * levels)}
		if levels == 13 {
			h.Mask = 0
		}
		for _, second := range keys(20) {
			a, b := "a", second
			if levels < 13 && chunk.At(h.Hash(a), levels) == chunk.At(h.Hash(b), levels) {
				continue
			}
			root, _ := champ.Put(h, nil, nil, of(a))
			g := guarded(h, nil, root, map[string]string{a: of(a).Value})
			two, ok := champ.Put(h, nil, root, of(b))
			if !ok {
				t.Fatal("not new")
			}
			g.changed(t, "Put", two)
			if got := fresh(g.nodes, two); got != levels+1 {
				t.Errorf("%d levels: got %d new nodes", levels, got)
			}
			n := two
			for range levels {
				kid, ok := n.Kid(0)
				if !ok || n.Len() != 1 || n.IsBucket() {
					t.Fatalf("%d levels: a node has %d", levels, n.Len())
				}
				n = kid
			}
			if n.IsBucket() != (levels == 13) || len(n.Pairs()) != 2 || n.Len() != 2 {
				t.Errorf("%d levels: got %q at the end", levels, n.Pairs())
			}
			check(t, "two", h, two, map[string]string{a: of(a).Value, b: of(b).Value})
			for _, key := range []string{a, b} {
				left := map[string]string{a: of(a).Value, b: of(b).Value}
				delete(left, key)
				one, ok := champ.Drop(h, nil, two, key)
				if !ok || one.Len() != 1 || one.Nodes() != 0 {
					t.Errorf("%d levels: Drop: got %v, %d, %x", levels, ok, one.Len(), one.Nodes())
				}
				check(t, "one", h, one, left)
				check(t, "still two", h, two, map[string]string{a: of(a).Value, b: of(b).Value})
			}
		}
	}
}

// P6.1: a child that is left with one pair gives place to it, at the level where
// that pair is alone and not at another one; a child with two stays.
func TestLeftWithOne(t *testing.T) {
	h := sip.Hasher{Mask: 1 << 10} // the keys differ at level 2 or nowhere
	var zeros, ones []string
	for _, key := range keys(40) {
		if h.Hash(key) == 0 {
			zeros = append(zeros, key)
		} else {
			ones = append(ones, key)
		}
	}
	root, m := champ.Empty(), map[string]string{}
	for _, key := range []string{zeros[0], ones[0], zeros[1], zeros[2]} {
		root, _ = champ.Put(h, nil, root, of(key))
		m[key] = of(key).Value
	}
	third := func(root *node.Node) *node.Node {
		one, _ := root.Kid(0)
		two, _ := one.Kid(0)
		return two
	}
	for _, step := range []struct {
		key         string
		data, nodes chunk.Bits // of the node at level 2
	}{{zeros[1], 2, 1}, {zeros[0], 3, 0}} {
		root, _ = champ.Drop(h, nil, root, step.key)
		delete(m, step.key)
		check(t, step.key, h, root, m)
		if n := third(root); n.Data() != step.data || n.Nodes() != step.nodes {
			t.Errorf("%s: got %x, %x", step.key, n.Data(), n.Nodes())
		}
	}
	root, _ = champ.Drop(h, nil, root, ones[0])
	if p, ok := root.Pair(0); p != of(zeros[2]) || !ok || root.Len() != 1 {
		t.Errorf("got %q, %v", p, ok)
	}
	root, _ = champ.Drop(h, nil, root, zeros[2])
	check(t, "nothing", h, root, nil)
}

// P6.1: the same map by different orders of Put and Drop, with values that were
// others before and keys that were there in between, has the same trie.
func TestOrders(t *testing.T) {
	_, by := takes(t, 1)
	all := keys(60)
	m := map[string]string{}
	for i, key := range all {
		if i%3 != 0 {
			m[key] = of(key).Value
		}
	}
	for _, h := range hashers() {
		for _, with := range []*token.Token{nil, by[0]} {
			for _, stride := range []int{1, 7, 11, 59} {
				root := champ.Empty()
				for i := range all {
					root, _ = champ.Put(h.Hasher, with, root, pair.Pair{Key: all[i*stride%60], Value: "before"})
				}
				for i := range all {
					key := all[(i*stride+13)%60]
					if value, ok := m[key]; ok {
						root, _ = champ.Put(h.Hasher, with, root, pair.Pair{Key: key, Value: value})
					} else {
						root, _ = champ.Drop(h.Hasher, with, root, key)
					}
				}
				check(t, h.name, h.Hasher, root, m)
			}
		}
	}
}

// P6.2 and P6.3: Put of a key with its very value, and Drop of a key that is not
// there, return root itself and change nothing, whoever owns the nodes.
func TestNothingToDo(t *testing.T) {
	pool, by := takes(t, 3)
	for _, h := range hashers() {
		for _, maker := range []*token.Token{nil, by[0], by[1]} {
			root, m := champ.Empty(), map[string]string{}
			for _, key := range keys(50) {
				root, _ = champ.Put(h.Hasher, maker, root, of(key))
				m[key] = of(key).Value
			}
			for _, with := range []*token.Token{nil, by[0], by[2]} {
				g := guarded(h.Hasher, with, root, m)
				for _, key := range keys(50) {
					got, ok := champ.Put(h.Hasher, with, root, of(key))
					if ok {
						t.Fatalf("%s: Put of %q: true", h.name, key)
					}
					g.same(t, h.name+", Put", got)
				}
				for _, key := range slices.Concat(odd, []string{"key", "key 50", "key 1 ", "KEY 1"}) {
					got, ok := champ.Drop(h.Hasher, with, root, key)
					if ok {
						t.Fatalf("%s: Drop of %.20q: true", h.name, key)
					}
					g.same(t, h.name+", Drop", got)
				}
			}
		}
	}
	pool.End(by[0])
	none := champ.Empty()
	for _, with := range append(by, nil) {
		if got, ok := champ.Drop(sip.Hasher{}, with, none, ""); got != none || ok {
			t.Errorf("got root itself: %v, %v", got == none, ok)
		}
	}
}

// P6.2: an empty value is a value.
func TestEmptyValue(t *testing.T) {
	for _, h := range hashers() {
		root, _ := champ.Put(h.Hasher, nil, nil, pair.Pair{Key: "a", Value: "1"})
		next, ok := champ.Put(h.Hasher, nil, root, pair.Pair{Key: "a"})
		if ok || next == root {
			t.Errorf("%s: got %v, %v", h.name, ok, next == root)
		}
		check(t, h.name, h.Hasher, next, map[string]string{"a": ""})
		check(t, h.name, h.Hasher, root, map[string]string{"a": "1"})
		if got, ok := champ.Put(h.Hasher, nil, next, pair.Pair{Key: "a"}); ok || got != next {
			t.Errorf("%s: got %v, %v", h.name, ok, got == next)
		}
	}
}

// P6.2 and P6.3: every way of changing a trie that is made by the token, by
// another, by an ended one, by one whose id was taken again, and by none, with
// live, ended and nil tokens.
func TestOwners(t *testing.T) {
	all := keys(24)
	for _, h := range hashers() {
		for _, made := range []string{"by the token", "by another", "by an ended", "by one with its id", "by none"} {
			for _, with := range []string{"live", "ended", "nil"} {
				for i := range all {
					what := h.name + ", made " + made + ", with " + with
					ownersCase(t, what, h.Hasher, made, with, all, i)
				}
			}
		}
	}
}

// ownersCase makes a trie of all keys but the first in one of the ways of
// TestOwners, and then puts, replaces or drops one key.
func ownersCase(t *testing.T, what string, h sip.Hasher, made, with string, all []string, which int) {
	t.Helper()
	pool, by := takes(t, 2)
	maker := by[0]
	switch made {
	case "by another", "by an ended":
		maker = by[1]
	case "by none":
		maker = nil
	}
	root, m := champ.Empty(), map[string]string{}
	for _, key := range all[1:] {
		root, _ = champ.Put(h, maker, root, of(key))
		m[key] = of(key).Value
	}
	own := by[0]
	switch made {
	case "by an ended":
		pool.End(by[1])
	case "by one with its id":
		pool.End(own)
		own, _ = pool.Take()
	}
	switch with {
	case "ended":
		pool.End(own)
	case "nil":
		own = nil
	}
	g := guarded(h, own, root, m, by...)
	key := all[which]
	var got *node.Node
	var ok bool
	if which%2 == 0 {
		got, ok = champ.Put(h, own, root, pair.Pair{Key: key, Value: "new"})
		_, was := m[key]
		ok = ok == !was
		m[key] = "new"
	} else {
		got, ok = champ.Drop(h, own, root, key)
		delete(m, key)
	}
	if !ok {
		t.Fatalf("%s: the answer of the call", what)
	}
	check(t, what, h, got, m)
	g.changed(t, what, got)
	if with != "live" || made != "by the token" {
		g.same(t, what, root)
	}
}

// P6.3: with the token that made it, a trie is changed in place: nothing is
// copied that the token owns from the root on, and new nodes are only those that
// the form asks for.
func TestInPlace(t *testing.T) {
	_, by := takes(t, 1)
	for _, h := range hashers() {
		root, _ := champ.Put(h.Hasher, by[0], nil, of("first"))
		start := root
		for _, key := range keys(80) {
			root, _ = champ.Put(h.Hasher, by[0], root, of(key))
		}
		nodes := below(root)
		for _, key := range keys(80) {
			root, _ = champ.Put(h.Hasher, by[0], root, pair.Pair{Key: key, Value: "new"})
		}
		if root != start || fresh(nodes, root) != 0 {
			t.Errorf("%s: %d new nodes for other values", h.name, fresh(nodes, root))
		}
		for _, key := range keys(80) {
			root, _ = champ.Drop(h.Hasher, by[0], root, key)
		}
		if root != start || fresh(nodes, root) != 0 {
			t.Errorf("%s: %d new nodes after Drop", h.name, fresh(nodes, root))
		}
		check(t, h.name, h.Hasher, root, map[string]string{"first": "<first>"})
	}
}

// P6.3: when the token ends, its nodes are nobody's: what was an edit's is never
// changed again, also not with the token that has its id next.
func TestEndedToken(t *testing.T) {
	for _, h := range hashers() {
		pool, by := takes(t, 1)
		root, m := champ.Empty(), map[string]string{}
		for _, key := range keys(30) {
			root, _ = champ.Put(h.Hasher, by[0], root, of(key))
			m[key] = of(key).Value
		}
		pool.End(by[0])
		again, _ := pool.Take()
		if again.ID() != by[0].ID() {
			t.Fatal("another id")
		}
		for _, with := range []*token.Token{by[0], again} {
			edit := root
			for _, key := range keys(60) {
				edit, _ = champ.Put(h.Hasher, with, edit, pair.Pair{Key: key, Value: "new"})
				edit, _ = champ.Drop(h.Hasher, with, edit, "key 7")
			}
			check(t, h.name, h.Hasher, root, m)
		}
	}
}

// P6.3: at most 14 nodes are new, and 14 there are if two keys that no chunk
// tells apart meet in the root, or if the value of one of them changes.
func TestMostNew(t *testing.T) {
	_, by := takes(t, 1)
	h := sip.Hasher{}
	for _, with := range []*token.Token{nil, by[0]} {
		one, _ := champ.Put(h, nil, nil, of("a"))
		two, _ := champ.Put(h, with, one, of("b"))
		if got := fresh(below(one), two); got != 14 {
			t.Errorf("two keys: got %d", got)
		}
		two, _ = champ.Put(h, nil, one, of("b"))
		other, _ := champ.Put(h, with, two, pair.Pair{Key: "a"})
		if got := fresh(below(two), other); got != 14 {
			t.Errorf("another value: got %d", got)
		}
		three, _ := champ.Put(h, nil, two, of("c"))
		left, _ := champ.Drop(h, with, three, "a")
		if got := fresh(below(three), left); got != 14 {
			t.Errorf("Drop of one of three: got %d", got)
		}
		left, _ = champ.Drop(h, with, two, "a")
		if got := fresh(below(two), left); got != 1 {
			t.Errorf("Drop of one of two: got %d", got)
		}
	}
}

// P6.3: a root that is not the token's keeps its map, though the token owns
// nodes below it.
func TestOwnedBelowOthers(t *testing.T) {
	for _, h := range hashers() {
		_, by := takes(t, 2)
		root, m := champ.Empty(), map[string]string{}
		for _, key := range keys(50) {
			root, _ = champ.Put(h.Hasher, by[0], root, of(key))
			m[key] = of(key).Value
		}
		for _, with := range []*token.Token{nil, by[1]} {
			other, _ := champ.Put(h.Hasher, with, root, of("more"))
			more := maps.Clone(m)
			more["more"] = of("more").Value
			for _, key := range keys(60)[25:] {
				g := guarded(h.Hasher, by[0], other, more, by...)
				want := maps.Clone(more)
				got, ok := champ.Put(h.Hasher, by[0], other, pair.Pair{Key: key, Value: "new"})
				if _, was := more[key]; ok == was {
					t.Fatalf("%s: got %v", h.name, ok)
				}
				want[key] = "new"
				check(t, h.name, h.Hasher, got, want)
				g.changed(t, h.name, got)
				g.same(t, h.name, other)
				if _, was := more[key]; !was {
					continue
				}
				got, _ = champ.Drop(h.Hasher, by[0], other, key)
				delete(want, key)
				check(t, h.name, h.Hasher, got, want)
				g.changed(t, h.name, got)
				g.same(t, h.name, other)
			}
			check(t, h.name, h.Hasher, root, m)
		}
	}
}

// P6.3: a node that the result has no more is as it was, for others that have
// it still.
func TestLeftNodesStay(t *testing.T) {
	for _, h := range hashers() {
		_, by := takes(t, 1)
		root := champ.Empty()
		for _, key := range keys(30) {
			root, _ = champ.Put(h.Hasher, by[0], root, of(key))
		}
		for _, key := range keys(30) {
			before := below(root)
			root, _ = champ.Drop(h.Hasher, by[0], root, key)
			after := below(root)
			for n, had := range before {
				if _, still := after[n]; !still && !holds(n).is(had) {
					t.Fatalf("%s: a node that was left behind has changed", h.name)
				}
			}
		}
	}
}

// P6.1 to P6.3: over a long sequence of changes, by tokens that end and are
// taken again and by none, every result is the trie of its map.
func TestLikeMaps(t *testing.T) {
	for _, h := range hashers() {
		pool, by := takes(t, 3)
		root, m := champ.Empty(), map[string]string{}
		step := uint32(1)
		next := func(n int) int {
			step = step*1664525 + 1013904223
			return int(step>>8) % n
		}
		for range 800 {
			var with *token.Token
			if who := next(4); who < 3 {
				with = by[who]
			}
			if next(40) == 0 {
				who := next(3)
				pool.End(by[who])
				by[who], _ = pool.Take()
			}
			g := guarded(h.Hasher, with, root, m, by...)
			key := "key " + strconv.Itoa(next(30))
			old, was := m[key]
			if next(2) == 0 {
				p := pair.Pair{Key: key, Value: strconv.Itoa(next(3))}
				got, ok := champ.Put(h.Hasher, with, root, p)
				if ok == was {
					t.Fatalf("%s: Put: got %v", h.name, ok)
				}
				m[key] = p.Value
				g.after(t, h.name, got, was && old == p.Value)
				root = got
			} else {
				got, ok := champ.Drop(h.Hasher, with, root, key)
				if ok != was {
					t.Fatalf("%s: Drop: got %v", h.name, ok)
				}
				delete(m, key)
				g.after(t, h.name, got, !was)
				root = got
			}
			check(t, h.name, h.Hasher, root, m)
		}
	}
}

func (g guard) after(t *testing.T, what string, result *node.Node, nothing bool) {
	t.Helper()
	if nothing {
		g.same(t, what, result)
	} else {
		g.changed(t, what, result)
	}
}

// P6.1 and P6.3: without a token every earlier trie stays as it was.
func TestVersions(t *testing.T) {
	for _, h := range hashers() {
		roots, ms := []*node.Node{champ.Empty()}, []map[string]string{{}}
		for i := range 60 {
			root, m := roots[len(roots)-1], maps.Clone(ms[len(ms)-1])
			key := "key " + strconv.Itoa(i*17%23)
			if i%3 == 2 {
				root, _ = champ.Drop(h.Hasher, nil, root, key)
				delete(m, key)
			} else {
				m[key] = strconv.Itoa(i)
				root, _ = champ.Put(h.Hasher, nil, root, pair.Pair{Key: key, Value: m[key]})
			}
			roots, ms = append(roots, root), append(ms, m)
		}
		for i := range roots {
			check(t, h.name+", version "+strconv.Itoa(i), h.Hasher, roots[i], ms[i])
		}
	}
}

// P6.1: a trie of many pairs, and a bucket of many.
func TestMany(t *testing.T) {
	_, by := takes(t, 1)
	for mask, n := range map[uint64]int{^uint64(0): 20000, 0: 1500} {
		h := sip.Hasher{Mask: mask}
		root, m := champ.Empty(), map[string]string{}
		for _, key := range keys(n) {
			root, _ = champ.Put(h, by[0], root, of(key))
			m[key] = of(key).Value
		}
		check(t, "many", h, root, m)
		for _, key := range keys(n)[n/100:] {
			root, _ = champ.Drop(h, by[0], root, key)
			delete(m, key)
		}
		check(t, "few", h, root, m)
	}
}

// P1: every call ends, and none panics, for nodes that are no tries of the
// hasher: of another one, a bucket, children at any depth, one below itself in
// one chunk and in all, and buckets and inner nodes at the wrong levels.
func TestNoTries(t *testing.T) {
	_, by := takes(t, 2)
	var roots []*node.Node
	other := champ.Empty()
	for _, key := range keys(50) {
		other, _ = champ.Put(sip.Full(sip.Key{K0: 9}), by[0], other, of(key))
	}
	roots = append(roots, other, node.Bucket(), node.Bucket().Put(by[0], of("a")), node.Bucket().Put(nil, of("a")).Put(nil, of("b")))
	deep := node.Inner().SetPair(nil, 0, of("a"))
	for range 40 {
		deep = node.Inner().SetKid(nil, 0, deep)
		roots = append(roots, deep)
	}
	for _, end := range []*node.Node{node.Inner(), node.Bucket(), node.Inner().SetPair(nil, 0, of("a"))} {
		roots = append(roots, node.Inner().SetKid(by[0], 0, end), node.Inner().SetPair(nil, 9, of("a")).SetKid(nil, 0, end))
	}
	for _, chunks := range []int{1, 2, 32} {
		for _, maker := range by {
			loop := node.Inner().SetPair(maker, 31, of("a"))
			for i := range chunks {
				loop.SetKid(maker, i, loop)
			}
			roots = append(roots, loop, node.Inner().SetKid(nil, 0, loop))
		}
	}
	for _, h := range hashers() {
		for _, root := range roots {
			for _, key := range []string{"a", "b", "", "key 3"} {
				champ.Get(h.Hasher, root, key)
				champ.Len(root)
				for _, with := range []*token.Token{nil, by[0]} {
					champ.Put(h.Hasher, with, root, pair.Pair{Key: key, Value: "new"})
					champ.Drop(h.Hasher, with, root, key)
				}
			}
		}
	}
}

// P1: a hasher that did not make the trie.
func TestAnotherHasher(t *testing.T) {
	made := sip.Full(sip.Key{})
	root := champ.Empty()
	for _, key := range keys(200) {
		root, _ = champ.Put(made, nil, root, of(key))
	}
	if champ.Len(root) != 200 {
		t.Fatal(champ.Len(root))
	}
	for _, h := range hashers() {
		for _, key := range keys(200) {
			if v, ok := champ.Get(h.Hasher, root, key); ok != (v != "") {
				t.Errorf("%s: got %q, %v", h.name, v, ok)
			}
			champ.Put(h.Hasher, nil, root, of(key))
			champ.Drop(h.Hasher, nil, root, key)
		}
	}
	if champ.Len(root) != 200 {
		t.Fatal(champ.Len(root))
	}
}

// P2: the same calls on equal tries have equal results, whoever owns the nodes
// and whatever was called before.
func TestSameCalls(t *testing.T) {
	for _, h := range hashers() {
		_, by := takes(t, 1)
		plain, owned := champ.Empty(), champ.Empty()
		for i, key := range keys(100) {
			p := pair.Pair{Key: key, Value: strconv.Itoa(i % 7)}
			var one, two bool
			if i%4 == 3 {
				plain, one = champ.Drop(h.Hasher, nil, plain, keys(100)[i/2])
				champ.Drop(h.Hasher, nil, owned, key)
				owned, two = champ.Drop(h.Hasher, by[0], owned, keys(100)[i/2])
			} else {
				plain, one = champ.Put(h.Hasher, nil, plain, p)
				champ.Put(h.Hasher, nil, owned, of(key))
				owned, two = champ.Put(h.Hasher, by[0], owned, p)
			}
			if one != two || champ.Len(plain) != champ.Len(owned) {
				t.Fatalf("%s: got %v, %v", h.name, one, two)
			}
		}
		if got, want := flat(owned), flat(plain); !slices.EqualFunc(got, want, alike) {
			t.Errorf("%s: the tries differ", h.name)
		}
	}
}

// flat returns what the nodes of a trie have, each ahead of its children's.
func flat(n *node.Node) []held {
	l := []held{holds(n)}
	for _, kid := range n.Kids() {
		l = append(l, flat(kid)...)
	}
	return l
}

// alike compares nodes of different tries, whose children are different nodes.
func alike(a, b held) bool {
	a.kids, b.kids = nil, nil
	return a.is(b)
}
