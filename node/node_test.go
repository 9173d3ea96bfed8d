package node_test

import (
	"math"
	"slices"
	"strconv"
	"testing"

	"quickset/api"
	"quickset/chunk"
	"quickset/node"
	"quickset/pair"
	"quickset/token"
)

// outside are numbers that are no chunks, some of which would be if cut to
// five bits, to a byte or to 32 bits.
var outside = []int{-1, -2, -31, -32, -64, 32, 33, 35, 63, 64, 99, 256, 259, 1 << 20, 1 << 32, 1<<32 + 3, math.MinInt, math.MinInt + 3, math.MaxInt}

// ordered are keys in the order of their bytes.
var ordered = []string{"", "\x00", "\x00a", "10", "2", "B", "a", "a\x00", "aa", "ab", "b", "\x7f", "\x80", "\xc3\xa9", "\xff", "\xff\x00", "\xff\xff"}

// shuffled is an order of the chunks in which neighbours are far apart.
func shuffled() []int {
	var l []int
	for i := range 32 {
		l = append(l, i*13%32)
	}
	return l
}

func of(key string) pair.Pair {
	return pair.Pair{Key: key, Value: "<" + key + ">"}
}

// at is a pair that tells its chunk.
func at(i int) pair.Pair {
	return of("chunk " + strconv.Itoa(i))
}

func takes(t *testing.T, n int) (*token.Pool, []*token.Token) {
	t.Helper()
	p, err := token.New(n)
	if err != api.OK {
		t.Fatal(err)
	}
	var l []*token.Token
	for range n {
		x, err := p.Take()
		if err != api.OK {
			t.Fatal(err)
		}
		l = append(l, x)
	}
	return p, l
}

// state is what a node is expected to have: an inner one by chunk, a bucket as
// a list.
type state struct {
	bucket bool
	list   []pair.Pair
	pairs  [32]*pair.Pair
	kids   [32]*node.Node
}

// stateOf asks an inner node or a bucket for what it has, chunk by chunk.
func stateOf(n *node.Node) state {
	if n.IsBucket() {
		return state{bucket: true, list: n.Pairs()}
	}
	var s state
	for i := range 32 {
		if p, ok := n.Pair(i); ok {
			s.pairs[i] = &p
		}
		if k, ok := n.Kid(i); ok {
			s.kids[i] = k
		}
	}
	return s
}

func (s state) withPair(i int, p pair.Pair) state {
	s.pairs[i], s.kids[i] = &p, nil
	return s
}

func (s state) withKid(i int, k *node.Node) state {
	s.pairs[i], s.kids[i] = nil, k
	return s
}

// check holds everything that a node says against what it is to have.
func check(t *testing.T, what string, n *node.Node, want state) {
	t.Helper()
	if n == nil {
		t.Fatalf("%s: no node", what)
	}
	var data, nodes chunk.Bits
	pairs, kids := slices.Clone(want.list), []*node.Node(nil)
	for i := range 32 {
		p, isPair := n.Pair(i)
		k, isKid := n.Kid(i)
		if isPair != (want.pairs[i] != nil) || isKid != (want.kids[i] != nil) || k != want.kids[i] {
			t.Errorf("%s: chunk %d: got %q, %v, and a child: %v", what, i, p, isPair, isKid)
		}
		wanted := pair.Pair{}
		if want.pairs[i] != nil {
			wanted = *want.pairs[i]
			data, pairs = data|1<<i, append(pairs, wanted)
		}
		if p != wanted {
			t.Errorf("%s: chunk %d: got %q, want %q", what, i, p, wanted)
		}
		if want.kids[i] != nil {
			nodes, kids = nodes|1<<i, append(kids, want.kids[i])
		}
	}
	for _, i := range outside {
		p, isPair := n.Pair(i)
		k, isKid := n.Kid(i)
		if p != (pair.Pair{}) || isPair || k != nil || isKid {
			t.Errorf("%s: %d is no chunk: got %q, %v, %v, %v", what, i, p, isPair, k, isKid)
		}
	}
	if n.IsBucket() != want.bucket || n.Data() != data || n.Nodes() != nodes || n.Len() != len(pairs)+len(kids) {
		t.Errorf("%s: got %v, %x, %x, %d, want %v, %x, %x, %d", what, n.IsBucket(), n.Data(), n.Nodes(), n.Len(), want.bucket, data, nodes, len(pairs)+len(kids))
	}
	if !slices.Equal(n.Pairs(), pairs) || !slices.Equal(n.Kids(), kids) {
		t.Errorf("%s: got %q and %d children, want %q and %d", what, n.Pairs(), len(n.Kids()), pairs, len(kids))
	}
}

// someInner is an inner node, made with t, that has pairs for the chunks 0, 7
// and 12, and children, a and b, for 3 and 31.
func someInner(t *token.Token, a, b *node.Node) *node.Node {
	return node.Inner().SetPair(t, 7, at(7)).SetPair(t, 0, at(0)).SetPair(t, 12, at(12)).SetKid(t, 31, b).SetKid(t, 3, a)
}

// someBucket is a bucket, made with t, of the keys b, d and f.
func someBucket(t *token.Token) *node.Node {
	return node.Bucket().Put(t, of("d")).Put(t, of("b")).Put(t, of("f"))
}

// change is one call of one of the five methods, and what it makes of a state.
type change struct {
	name   string
	do     func(n *node.Node, t *token.Token) *node.Node
	wanted func(s state) state
}

// innerChanges are changes of someInner: to chunks with a pair, with a child
// and with neither, at both ends and between, and some that change nothing.
func innerChanges(a, b *node.Node) []change {
	var l []change
	for _, i := range []int{0, 3, 5, 7, 12, 13, 30, 31} {
		name := " of chunk " + strconv.Itoa(i)
		cleared := func(s state) state { return s.withKid(i, nil) }
		l = append(l,
			change{"SetPair" + name, func(n *node.Node, t *token.Token) *node.Node { return n.SetPair(t, i, of("new")) }, func(s state) state { return s.withPair(i, of("new")) }},
			change{"SetPair, the same," + name, func(n *node.Node, t *token.Token) *node.Node { return n.SetPair(t, i, at(i)) }, func(s state) state { return s.withPair(i, at(i)) }},
			change{"SetPair, empty," + name, func(n *node.Node, t *token.Token) *node.Node { return n.SetPair(t, i, pair.Pair{}) }, func(s state) state { return s.withPair(i, pair.Pair{}) }},
			change{"SetKid a" + name, func(n *node.Node, t *token.Token) *node.Node { return n.SetKid(t, i, a) }, func(s state) state { return s.withKid(i, a) }},
			change{"SetKid b" + name, func(n *node.Node, t *token.Token) *node.Node { return n.SetKid(t, i, b) }, func(s state) state { return s.withKid(i, b) }},
			change{"SetKid nil" + name, func(n *node.Node, t *token.Token) *node.Node { return n.SetKid(t, i, nil) }, cleared},
			change{"Clear" + name, func(n *node.Node, t *token.Token) *node.Node { return n.Clear(t, i) }, cleared},
		)
	}
	return l
}

// bucketChanges are changes of someBucket: of keys that are there and that are
// not, ahead of all, between and behind all.
func bucketChanges() []change {
	var l []change
	for _, key := range []string{"", "a", "b", "c", "d", "e", "f", "ff", "\xff"} {
		for _, p := range []pair.Pair{{Key: key}, of(key), {Key: key, Value: "new"}} {
			l = append(l, change{"Put of " + strconv.Quote(key) + ", " + strconv.Quote(p.Value), func(n *node.Node, t *token.Token) *node.Node { return n.Put(t, p) }, func(s state) state {
				s.list = pair.Sorted(append(slices.Clone(s.list), p))
				return s
			}})
		}
		l = append(l, change{"Drop of " + strconv.Quote(key), func(n *node.Node, t *token.Token) *node.Node { return n.Drop(t, key) }, func(s state) state {
			s.list = slices.DeleteFunc(slices.Clone(s.list), func(p pair.Pair) bool { return p.Key == key })
			return s
		}})
	}
	return l
}

// P5.1: new nodes are empty, owned by nobody, and another one each time.
func TestNew(t *testing.T) {
	_, by := takes(t, 1)
	for _, create := range []func() *node.Node{node.Inner, node.Bucket} {
		a, b := create(), create()
		if a == b || a.Owned(nil) || a.Owned(by[0]) {
			t.Errorf("got %v, %v, %v", a == b, a.Owned(nil), a.Owned(by[0]))
		}
	}
	check(t, "Inner", node.Inner(), state{})
	check(t, "Bucket", node.Bucket(), state{bucket: true})
}

// The example of the document.
func TestExample(t *testing.T) {
	n := node.Inner()
	m := n.SetPair(nil, 3, of("a"))
	if m == n || !slices.Equal(slices.Collect(m.Data().All()), []int{3}) {
		t.Errorf("got %v, %x", m == n, m.Data())
	}
	check(t, "before", n, state{})
	check(t, "after", m, state{}.withPair(3, of("a")))
}

// P5.1: every chunk can have a pair or a child, alone and beside all others, in
// whatever order they come and go.
func TestEveryChunk(t *testing.T) {
	_, by := takes(t, 1)
	for _, owner := range []*token.Token{nil, by[0]} {
		n, want := node.Inner().SetPair(owner, 0, at(0)).Clear(owner, 0), state{}
		for _, i := range shuffled() {
			check(t, "one pair", node.Inner().SetPair(owner, i, at(i)), state{}.withPair(i, at(i)))
			k := node.Bucket()
			check(t, "one child", node.Inner().SetKid(owner, i, k), state{}.withKid(i, k))
			if i%3 == 0 {
				n, want = n.SetKid(owner, i, k), want.withKid(i, k)
			} else {
				n, want = n.SetPair(owner, i, at(i)), want.withPair(i, at(i))
			}
			check(t, "filling", n, want)
		}
		for _, i := range shuffled() {
			k := node.Inner()
			if i%3 == 0 {
				n, want = n.SetPair(owner, i, at(i)), want.withPair(i, at(i))
			} else {
				n, want = n.SetKid(owner, i, k), want.withKid(i, k)
			}
			check(t, "exchanging", n, want)
		}
		for _, i := range shuffled() {
			n, want = n.Clear(owner, i), want.withKid(i, nil)
			check(t, "clearing", n, want)
		}
	}
}

// P5.1: the pairs of an inner node are ordered by chunk, not by key, and one
// key may be there often.
func TestInnerOrder(t *testing.T) {
	n := node.Inner().SetPair(nil, 2, of("a")).SetPair(nil, 1, of("b")).SetPair(nil, 9, of("a"))
	if got := n.Pairs(); !slices.Equal(got, []pair.Pair{of("b"), of("a"), of("a")}) {
		t.Errorf("got %q", got)
	}
}

// P5.1 and P5.2: one node may be the child of several chunks, and an inner node
// may even be its own; no call follows children.
func TestSameKid(t *testing.T) {
	_, by := takes(t, 1)
	k := node.Inner()
	check(t, "twice", node.Inner().SetKid(nil, 4, k).SetKid(nil, 1, k), state{}.withKid(4, k).withKid(1, k))
	n := node.Inner().SetPair(by[0], 0, at(0))
	if n.SetKid(by[0], 9, n) != n {
		t.Error("an owned node was copied")
	}
	check(t, "its own child", n, state{}.withPair(0, at(0)).withKid(9, n))
	check(t, "of a copy", n.Clear(nil, 0), state{}.withKid(9, n))
}

// P5.2: every change, of a node that is owned by the token it is made with, by
// another, by an ended one, and by none, with live, ended and nil tokens and
// with a token whose id was taken again.
func TestChanges(t *testing.T) {
	a, b := node.Inner(), node.Bucket()
	inner := func(t *token.Token) *node.Node { return someInner(t, a, b) }
	for _, kind := range []struct {
		create  func(t *token.Token) *node.Node
		changes []change
	}{{inner, innerChanges(a, b)}, {someBucket, bucketChanges()}} {
		for _, c := range kind.changes {
			for _, made := range []string{"by the token", "by another", "by an ended", "by none", "by one with its id"} {
				for _, with := range []string{"live", "ended", "nil"} {
					changed(t, c, kind.create, made, with)
				}
			}
		}
	}
}

// changed makes a node in one of the ways of TestChanges, makes one change with
// a token of the given state, and checks the old and the new node.
func changed(t *testing.T, c change, create func(t *token.Token) *node.Node, made, with string) {
	t.Helper()
	what := c.name + ", made " + made + ", with " + with
	pool, by := takes(t, 2)
	own, other := by[0], by[1]
	var n *node.Node
	switch made {
	case "by the token":
		n = create(own)
	case "by another":
		n = create(other)
	case "by an ended":
		n = create(other)
		pool.End(other)
	case "by none":
		n = create(nil)
	case "by one with its id":
		n = create(own)
		pool.End(own)
		own, _ = pool.Take()
		if own.ID() != by[0].ID() {
			t.Fatal("the id is another one")
		}
	}
	switch with {
	case "ended":
		pool.End(own)
	case "nil":
		own = nil
	}
	before := stateOf(n)
	want := c.wanted(before)
	inPlace := made == "by the token" && with == "live"
	m := c.do(n, own)
	if (m == n) != inPlace {
		t.Errorf("%s: got the node itself: %v", what, m == n)
	}
	check(t, what+", the result", m, want)
	if !inPlace {
		check(t, what+", the node", n, before)
	}
	if m.Owned(own) != (with == "live") || m.Owned(nil) || m.Owned(other) {
		t.Errorf("%s: owned: %v, %v, %v", what, m.Owned(own), m.Owned(nil), m.Owned(other))
	}
	if n.Owned(other) != (made == "by another") {
		t.Errorf("%s: the node has another owner", what)
	}
}

// P5.2: an owned node is the same through all its changes until its token ends;
// then it is never changed again, also not with the token that has its id next.
func TestOwnedUntilTheEnd(t *testing.T) {
	pool, by := takes(t, 1)
	old := by[0]
	n := node.Inner().SetPair(old, 1, at(1))
	if n.SetPair(old, 2, at(2)) != n || n.SetKid(old, 1, n) != n || n.Clear(old, 1) != n || n.SetKid(old, 5, nil) != n {
		t.Error("an owned node was copied")
	}
	b := node.Bucket().Put(old, of("a"))
	if b.Put(old, of("b")) != b || b.Drop(old, "a") != b || b.Drop(old, "none") != b {
		t.Error("an owned bucket was copied")
	}
	if !n.Owned(old) || !b.Owned(old) {
		t.Error("owned nodes are not owned")
	}
	pool.End(old)
	again, _ := pool.Take()
	for _, x := range []*token.Token{old, again} {
		if n.Owned(x) || b.Owned(x) {
			t.Errorf("owned by %d, live: %v", x.ID(), x.Live())
		}
		if m := n.SetPair(x, 3, at(3)); m == n || m.Owned(x) != x.Live() {
			t.Errorf("got the node: %v, owned: %v", m == n, m.Owned(x))
		}
		if m := b.Put(x, of("z")); m == b || m.Owned(x) != x.Live() {
			t.Errorf("got the bucket: %v, owned: %v", m == b, m.Owned(x))
		}
	}
	check(t, "the inner node", n, state{}.withPair(2, at(2)))
	check(t, "the bucket", b, state{bucket: true, list: []pair.Pair{of("b")}})
}

// P5.2: tokens of different pools are different, whatever their ids.
func TestTokensOfTwoPools(t *testing.T) {
	_, p := takes(t, 1)
	_, q := takes(t, 1)
	n := node.Inner().SetPair(p[0], 1, at(1))
	if !n.Owned(p[0]) || n.Owned(q[0]) || n.Clear(q[0], 1) == n {
		t.Error("the id counts")
	}
	check(t, "the node", n, state{}.withPair(1, at(1)))
}

// P5.2: a copy and its node go apart: what is done in place to one, to chunks
// that both have, is not seen in the other, nor in a second copy.
func TestCopiesGoApart(t *testing.T) {
	_, by := takes(t, 3)
	a, b := node.Inner(), node.Bucket()
	n := someInner(by[0], a, b)
	first, second := n.Clear(by[1], 20), n.Clear(by[2], 20)
	states := []state{stateOf(n), stateOf(n), stateOf(n)}
	nodes := []*node.Node{n, first, second}
	for _, i := range shuffled() {
		for which, m := range nodes {
			p := of(strconv.Itoa(which))
			if (i+which)%3 == 0 {
				m.SetKid(by[which], i, nodes[0])
				states[which] = states[which].withKid(i, nodes[0])
			} else if (i+which)%3 == 1 {
				m.SetPair(by[which], i, p)
				states[which] = states[which].withPair(i, p)
			} else {
				m.Clear(by[which], i)
				states[which] = states[which].withKid(i, nil)
			}
			for k := range nodes {
				check(t, "node "+strconv.Itoa(k), nodes[k], states[k])
			}
		}
	}
}

// P5.2: the same of buckets.
func TestCopiedBucketsGoApart(t *testing.T) {
	_, by := takes(t, 3)
	n := someBucket(by[0])
	nodes := []*node.Node{n, n.Drop(by[1], "none"), n.Put(by[2], of("b"))}
	lists := [][]pair.Pair{n.Pairs(), n.Pairs(), n.Pairs()}
	for i, key := range []string{"d", "a", "b", "e", "f", "g", "d", "c", "b"} {
		for which, m := range nodes {
			p := pair.Pair{Key: key, Value: strconv.Itoa(which)}
			if (i+which)%3 == 0 {
				m.Drop(by[which], key)
				lists[which] = pair.Drop(lists[which], key)
			} else {
				m.Put(by[which], p)
				lists[which] = pair.Put(lists[which], p)
			}
			for k := range nodes {
				check(t, "bucket "+strconv.Itoa(k), nodes[k], state{bucket: true, list: lists[k]})
			}
		}
	}
}

// P5.2: a new node has the very children of the old one, and a child that is
// changed in place is changed for both.
func TestChildrenAreShared(t *testing.T) {
	_, by := takes(t, 1)
	k := node.Inner().SetPair(by[0], 1, at(1))
	n := node.Inner().SetKid(nil, 4, k)
	m := n.SetPair(nil, 5, at(5))
	k.SetPair(by[0], 2, at(2))
	for _, x := range []*node.Node{n, m} {
		if got, ok := x.Kid(4); got != k || !ok || got.Len() != 2 {
			t.Errorf("got %v, %v", got == k, ok)
		}
	}
}

// P5.2: numbers that are no chunks, for an inner node that is owned or not.
func TestNoChunk(t *testing.T) {
	_, by := takes(t, 2)
	a, b := node.Inner(), node.Bucket()
	for _, owner := range []*token.Token{nil, by[0]} {
		n := someInner(owner, a, b)
		before := stateOf(n)
		for _, with := range []*token.Token{nil, by[0], by[1]} {
			for _, i := range outside {
				if n.SetPair(with, i, of("new")) != n || n.SetKid(with, i, a) != n || n.SetKid(with, i, nil) != n || n.Clear(with, i) != n {
					t.Errorf("%d: got another node", i)
				}
			}
		}
		check(t, "no chunk", n, before)
		if n.Owned(by[0]) != (owner == by[0]) || n.Owned(by[1]) {
			t.Error("the owner has changed")
		}
	}
}

// P5.2: a bucket has no chunks, though it has pairs, and an inner node is no
// bucket, though it has the key: the result is the node itself.
func TestOtherKind(t *testing.T) {
	_, by := takes(t, 2)
	a, b := node.Inner(), node.Bucket()
	for _, owner := range []*token.Token{nil, by[0]} {
		bucket, inner := someBucket(owner), someInner(owner, a, b)
		states := []state{stateOf(bucket), stateOf(inner)}
		for _, with := range []*token.Token{nil, by[0], by[1]} {
			for _, i := range append(shuffled(), outside...) {
				if bucket.SetPair(with, i, of("b")) != bucket || bucket.SetKid(with, i, a) != bucket || bucket.SetKid(with, i, nil) != bucket || bucket.Clear(with, i) != bucket {
					t.Errorf("chunk %d of a bucket: got another node", i)
				}
			}
			if inner.Put(with, at(7)) != inner || inner.Put(with, of("new")) != inner || inner.Drop(with, at(7).Key) != inner || inner.Drop(with, "") != inner {
				t.Error("Put or Drop of an inner node: got another node")
			}
		}
		check(t, "the bucket", bucket, states[0])
		check(t, "the inner node", inner, states[1])
		if bucket.Owned(by[0]) != (owner == by[0]) || inner.Owned(by[0]) != (owner == by[0]) || bucket.Owned(by[1]) || inner.Owned(by[1]) {
			t.Error("an owner has changed")
		}
	}
}

// P5.1 and P5.2: a bucket is in the order of its keys' bytes, in whatever order
// they came, and has the value that came last.
func TestBucketOrder(t *testing.T) {
	_, by := takes(t, 1)
	for _, owner := range []*token.Token{nil, by[0]} {
		for start := range ordered {
			n, want := node.Bucket(), []pair.Pair(nil)
			for i := range 2 * len(ordered) {
				p := pair.Pair{Key: ordered[(start+i*7)%len(ordered)], Value: strconv.Itoa(i)}
				n, want = n.Put(owner, p), pair.Sorted(append(want, p))
				check(t, "Put", n, state{bucket: true, list: want})
			}
			for i := range ordered {
				key := ordered[(start+i*5)%len(ordered)]
				n, want = n.Drop(owner, key), pair.Drop(want, key)
				check(t, "Drop", n, state{bucket: true, list: want})
				n = n.Drop(owner, key)
				check(t, "Drop again", n, state{bucket: true, list: want})
			}
		}
	}
}

// P5.2: Drop of a key that is not there gives another node all the same, also
// of a bucket without pairs, unless the token owns it.
func TestDropNothing(t *testing.T) {
	_, by := takes(t, 1)
	for _, n := range []*node.Node{node.Bucket(), someBucket(nil)} {
		before := stateOf(n)
		for _, with := range []*token.Token{nil, by[0]} {
			m := n.Drop(with, "none")
			if m == n || m.Owned(by[0]) != (with == by[0]) {
				t.Errorf("got the node: %v, owned: %v", m == n, m.Owned(by[0]))
			}
			check(t, "the bucket", n, before)
			check(t, "the result", m, before)
		}
		own := n.Put(by[0], of("x")).Drop(by[0], "x")
		if own.Drop(by[0], "x") != own {
			t.Error("an owned bucket was copied")
		}
		check(t, "the owned one", own, before)
	}
}

// Memory: the caller may overwrite a list that Pairs or Kids returned, with its
// spare room: neither the node nor an earlier list changes.
func TestListsAreTheCallers(t *testing.T) {
	_, by := takes(t, 1)
	a, b := node.Inner(), node.Bucket()
	for _, n := range []*node.Node{someInner(nil, a, b), someInner(by[0], a, b), someInner(by[0], a, b).Clear(by[0], 7).Clear(by[0], 3), someBucket(nil), someBucket(by[0]), someBucket(by[0]).Drop(by[0], "d"), node.Inner(), node.Bucket()} {
		before := stateOf(n)
		pairs, kids := n.Pairs(), n.Kids()
		wantPairs, wantKids := slices.Clone(pairs), slices.Clone(kids)
		for _, p := range [][]pair.Pair{n.Pairs(), append(n.Pairs(), of("behind"))} {
			for i := range p[:cap(p)] {
				p[:cap(p)][i] = of("overwritten")
			}
		}
		for _, k := range [][]*node.Node{n.Kids(), append(n.Kids(), n)} {
			clear(k[:cap(k)])
		}
		check(t, "overwritten", n, before)
		if !slices.Equal(pairs, wantPairs) || !slices.Equal(kids, wantKids) {
			t.Errorf("earlier lists have changed: %q", pairs)
		}
	}
}

// Memory: lists that were returned stay as they are when the node is changed in
// place.
func TestListsStay(t *testing.T) {
	_, by := takes(t, 1)
	a, b := node.Inner(), node.Bucket()
	for _, kind := range []struct {
		create  func(t *token.Token) *node.Node
		changes []change
	}{{func(t *token.Token) *node.Node { return someInner(t, a, b) }, innerChanges(a, b)}, {someBucket, bucketChanges()}} {
		for _, c := range kind.changes {
			n := kind.create(by[0])
			pairs, kids := n.Pairs(), n.Kids()
			wantPairs, wantKids := slices.Clone(pairs), slices.Clone(kids)
			if c.do(n, by[0]) != n {
				t.Errorf("%s: an owned node was copied", c.name)
			}
			if !slices.Equal(pairs, wantPairs) || !slices.Equal(kids, wantKids) {
				t.Errorf("%s: got %q", c.name, pairs)
			}
		}
	}
}

// P1: no node, with and without tokens.
func TestNilNode(t *testing.T) {
	_, by := takes(t, 1)
	var n *node.Node
	for _, with := range []*token.Token{nil, by[0]} {
		for _, i := range append(shuffled(), outside...) {
			p, isPair := n.Pair(i)
			k, isKid := n.Kid(i)
			if p != (pair.Pair{}) || isPair || k != nil || isKid {
				t.Errorf("chunk %d: got %q, %v, %v, %v", i, p, isPair, k, isKid)
			}
			if n.SetPair(with, i, of("a")) != nil || n.SetKid(with, i, node.Inner()) != nil || n.SetKid(with, i, nil) != nil || n.Clear(with, i) != nil {
				t.Errorf("chunk %d: got a node", i)
			}
		}
		if n.Put(with, of("a")) != nil || n.Drop(with, "a") != nil || n.Owned(with) {
			t.Error("got a node, or an owner")
		}
	}
	if n.IsBucket() || n.Data() != 0 || n.Nodes() != 0 || len(n.Pairs()) != 0 || len(n.Kids()) != 0 || n.Len() != 0 {
		t.Error("no node has something")
	}
}

// P2 and P5.2: over a long sequence of changes, by four tokens that end and are
// taken again and by none, every node has what its own changes gave it.
func TestLikeStates(t *testing.T) {
	pool, by := takes(t, 4)
	nodes, states := []*node.Node{node.Inner()}, []state{{}}
	step := uint32(1)
	next := func(n int) int {
		step = step*1664525 + 1013904223
		return int(step>>8) % n
	}
	for range 6000 {
		which, i := next(len(nodes)), next(32)
		var with *token.Token
		if who := next(5); who < 4 {
			with = by[who]
			if next(100) == 0 {
				pool.End(with)
				by[who], _ = pool.Take()
			}
		}
		n, s, owned := nodes[which], states[which], nodes[which].Owned(with)
		m := n
		switch next(4) {
		case 0:
			m, s = n.Clear(with, i), s.withKid(i, nil)
		case 1:
			k := nodes[next(len(nodes))]
			m, s = n.SetKid(with, i, k), s.withKid(i, k)
		default:
			p := of(strconv.Itoa(next(50)))
			m, s = n.SetPair(with, i, p), s.withPair(i, p)
		}
		if (m == n) != owned || m.Owned(with) != with.Live() {
			t.Fatalf("got the node itself: %v, owned: %v", m == n, m.Owned(with))
		}
		if owned {
			states[which] = s
			continue
		}
		check(t, "the node", n, states[which])
		if len(nodes) < 40 {
			nodes, states = append(nodes, m), append(states, s)
		} else {
			nodes[which], states[which] = m, s
		}
	}
	for k := range nodes {
		check(t, "node "+strconv.Itoa(k), nodes[k], states[k])
	}
}
