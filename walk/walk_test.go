package walk_test

import (
	"maps"
	"slices"
	"strconv"
	"strings"
	"testing"

	"quickset/api"
	"quickset/champ"
	"quickset/node"
	"quickset/pair"
	"quickset/sip"
	"quickset/token"
	"quickset/walk"
)

// odd are keys and values of any bytes and any length, also longer than the
// limits of later layers.
var odd = []string{"", "\x00", "\x00\x00", "a", "a\x00", "ab", "b", "\n", "\x7f", "\x80", "\xc3\xa9", "\xc3", "\xff", "\xff\xff", strings.Repeat("k", api.MaxKey+1), strings.Repeat("v", api.MaxValue+1)}

type named struct {
	name string
	sip.Hasher
}

// hashers are some whose hashes share no chunks in particular, and some whose
// hashes share the chunks of some levels, or of all.
func hashers() []named {
	l := []named{{"all bits", sip.Full(sip.Key{K0: 7, K1: 9})}}
	for name, mask := range map[string]uint64{
		"no bits": 0, "bit 0": 1, "bit 63": 1 << 63,
		"level 0": 0x1f, "level 1": 0x3e0, "the last level": 0xf << 60,
		"two bits of levels 0 and 6": 3 | 3<<30, "a bit of each level": 0x1084210842108421, "from level 5 on": ^uint64(1<<25 - 1),
	} {
		l = append(l, named{name, sip.Hasher{Key: sip.Key{K0: 3}, Mask: mask}})
	}
	return l
}

func of(key string) pair.Pair {
	return pair.Pair{Key: key, Value: "<" + key + ">"}
}

// keys are n keys in an order that is that of neither their bytes nor their
// hashes.
func keys(n int) []string {
	var l []string
	for i := range n {
		l = append(l, "key "+strconv.Itoa(i*7919%n))
	}
	return l
}

// lists are lists of keys: none, one, some, many, and odd ones.
func lists() [][]string {
	return [][]string{nil, {"a"}, {""}, {"a", "b"}, {"c", "b", "a"}, keys(10), keys(150), odd}
}

func trie(h sip.Hasher, by *token.Token, l ...string) *node.Node {
	root := champ.Empty()
	for _, key := range l {
		root, _ = champ.Put(h, by, root, of(key))
	}
	return root
}

// take returns a live token, and its pool.
func take(t *testing.T) (*token.Token, *token.Pool) {
	t.Helper()
	pool, err := token.New(1)
	if err != api.OK {
		t.Fatal(err)
	}
	by, err := pool.Take()
	if err != api.OK {
		t.Fatal(err)
	}
	return by, pool
}

// step is a pair of a walk, and the number of nodes on the path to it.
type step struct {
	pair.Pair
	depth int
}

// order is the definition of the walk (P8.1) of the trie that keys have (P6.1),
// from a level on: first the pairs that are alone with their chunk, then the
// walks of the others.
func order(h sip.Hasher, level int, l []string) []step {
	var steps []step
	var by [32][]string
	for _, key := range slices.Sorted(slices.Values(l)) {
		if level == 13 {
			steps = append(steps, step{of(key), 14})
			continue
		}
		i := h.Hash(key) >> (5 * level) & 31
		by[i] = append(by[i], key)
	}
	for _, l := range by {
		if len(l) == 1 {
			steps = append(steps, step{of(l[0]), level + 1})
		}
	}
	for _, l := range by {
		if len(l) > 1 {
			steps = append(steps, order(h, level+1, l)...)
		}
	}
	return steps
}

// pairs are those of the steps.
func pairs(l []step) []pair.Pair {
	var out []pair.Pair
	for _, s := range l {
		out = append(out, s.Pair)
	}
	return out
}

// follow checks that exactly these steps are ahead of a cursor, and the end of
// the walk again and again.
func follow(t *testing.T, what string, c *walk.Cursor, want []step) {
	t.Helper()
	for i, s := range want {
		if p, ok := c.Next(); p != s.Pair || !ok || c.Depth() != s.depth {
			t.Fatalf("%s: step %d: got %.20q, %v, depth %d, want %.20q, depth %d", what, i, p.Key, ok, c.Depth(), s.Key, s.depth)
		}
	}
	for range 3 {
		if p, ok := c.Next(); p != (pair.Pair{}) || ok || c.Depth() != 0 {
			t.Fatalf("%s: after the end: got %.20q, %v, depth %d", what, p.Key, ok, c.Depth())
		}
	}
}

// each calls a test for the trie of each list of keys, for each hasher.
func each(f func(what string, h sip.Hasher, root *node.Node, want []step)) {
	for _, h := range hashers() {
		for _, l := range lists() {
			f(h.name+", "+strconv.Itoa(len(l))+" keys", h.Hasher, trie(h.Hasher, nil, l...), order(h.Hasher, 0, l))
		}
	}
}

// P8.1, P8.2: no trie.
func TestNil(t *testing.T) {
	for p := range walk.All(nil) {
		t.Errorf("All: got %v", p)
	}
	if l := walk.Sorted(nil); len(l) != 0 {
		t.Errorf("Sorted: got %v", l)
	}
	c := walk.New(nil)
	if c == nil || c.Depth() != 0 {
		t.Fatal("New")
	}
	follow(t, "New", c, nil)
	follow(t, "New, copied", walk.New(nil).Copy(), nil)
	for _, h := range hashers() {
		if c, ok := walk.Seek(h.Hasher, nil, ""); c != nil || ok {
			t.Errorf("Seek: got %v", ok)
		}
	}
}

// P8.2: no cursor.
func TestNilCursor(t *testing.T) {
	var c *walk.Cursor
	if p, ok := c.Next(); p != (pair.Pair{}) || ok {
		t.Errorf("Next: got %v, %v", p, ok)
	}
	if c.Copy() != nil || c.Depth() != 0 {
		t.Error("Copy or Depth")
	}
}

// P8.1: pairs of the root in the order of their chunks, which is not that of
// their keys, ahead of a child's; a bucket by key.
func TestWrittenOut(t *testing.T) {
	bucket := node.Bucket().Put(nil, of("d")).Put(nil, of("c"))
	kid := node.Inner().SetPair(nil, 4, of("e")).SetPair(nil, 2, of("g")).SetKid(nil, 3, bucket)
	root := node.Inner().SetPair(nil, 31, of("a")).SetPair(nil, 7, of("z")).SetKid(nil, 30, bucket).SetKid(nil, 0, kid)
	want := []step{{of("z"), 1}, {of("a"), 1}, {of("g"), 2}, {of("e"), 2}, {of("c"), 3}, {of("d"), 3}, {of("c"), 2}, {of("d"), 2}}
	if got := slices.Collect(walk.All(root)); !pair.Same(got, pairs(want)) {
		t.Errorf("All: got %v", got)
	}
	follow(t, "New", walk.New(root), want)
}

// P8.1: All and Sorted, of tries without pairs, with one, with buckets, and of
// many.
func TestAll(t *testing.T) {
	each(func(what string, h sip.Hasher, root *node.Node, want []step) {
		if got := slices.Collect(walk.All(root)); !pair.Same(got, pairs(want)) {
			t.Errorf("%s: All: got %.99q", what, got)
		}
		l := walk.Sorted(root)
		if !pair.Rises(l) || !pair.Same(l, pair.Sorted(pairs(want))) {
			t.Errorf("%s: Sorted: got %.99q", what, l)
		}
	})
}

// P8.1: a trie has one walk, whatever the order of its changes and whoever owns
// its nodes.
func TestHistories(t *testing.T) {
	for _, h := range hashers() {
		by, _ := take(t)
		root := trie(h.Hasher, by, keys(120)...)
		for i, key := range keys(120) {
			if i%3 == 0 {
				root, _ = champ.Drop(h.Hasher, by, root, key)
			}
		}
		left := slices.DeleteFunc(keys(120), func(key string) bool {
			_, there := champ.Get(h.Hasher, root, key)
			return !there
		})
		if len(left) != 80 {
			t.Fatalf("%s: %d keys", h.name, len(left))
		}
		if got := slices.Collect(walk.All(root)); !pair.Same(got, pairs(order(h.Hasher, 0, left))) {
			t.Errorf("%s: got %v", h.name, got)
		}
	}
}

// P8.1: an iteration that is left early yields nothing more, and the next one
// begins at the beginning.
func TestLeftEarly(t *testing.T) {
	each(func(what string, h sip.Hasher, root *node.Node, want []step) {
		all := walk.All(root)
		for n := range want {
			var got []pair.Pair
			all(func(p pair.Pair) bool {
				got = append(got, p)
				return len(got) <= n
			})
			if !pair.Same(got, pairs(want[:n+1])) {
				t.Fatalf("%s: left after %d: got %d", what, n+1, len(got))
			}
		}
		if got := slices.Collect(all); !pair.Same(got, pairs(want)) {
			t.Errorf("%s: whole, after that: got %d", what, len(got))
		}
	})
}

// P8.1: iterations inside one another.
func TestNested(t *testing.T) {
	h := sip.Hasher{Mask: 0x21}
	all := walk.All(trie(h, nil, keys(12)...))
	want := pairs(order(h, 0, keys(12)))
	var outer []pair.Pair
	for p := range all {
		outer = append(outer, p)
		if got := slices.Collect(all); !pair.Same(got, want) {
			t.Fatalf("got %v", got)
		}
	}
	if !pair.Same(outer, want) {
		t.Errorf("got %v", outer)
	}
}

// P8.1: Sorted orders by bytes.
func TestSortedBytes(t *testing.T) {
	for _, h := range hashers() {
		l := walk.Sorted(trie(h.Hasher, nil, "b", "", "\xff", "ab", "\x00", "a", "\xc3\xa9", "a\x00", "B"))
		want := []pair.Pair{of(""), of("\x00"), of("B"), of("a"), of("a\x00"), of("ab"), of("b"), of("\xc3\xa9"), of("\xff")}
		if !pair.Same(l, want) {
			t.Errorf("%s: got %v", h.name, l)
		}
	}
}

// Memory: Sorted's result shares nothing with the trie or with another result.
func TestSortedMemory(t *testing.T) {
	for _, h := range hashers() {
		root := trie(h.Hasher, nil, keys(40)...)
		want := pair.Sorted(pairs(order(h.Hasher, 0, keys(40))))
		one, two := walk.Sorted(root), walk.Sorted(root)
		clear(one[:cap(one)])
		if !pair.Same(two, want) || !pair.Same(walk.Sorted(root), want) {
			t.Errorf("%s: a result shares memory", h.name)
		}
	}
}

// P8.2: a new cursor, and Depth: before the first pair, after each, and after
// the end.
func TestNew(t *testing.T) {
	each(func(what string, h sip.Hasher, root *node.Node, want []step) {
		c := walk.New(root)
		if c.Depth() != 0 {
			t.Errorf("%s: got depth %d before the first", what, c.Depth())
		}
		follow(t, what, c, want)
	})
}

// P8.2: Seek of every key, in buckets and elsewhere, and of the last one of the
// walk.
func TestSeek(t *testing.T) {
	each(func(what string, h sip.Hasher, root *node.Node, want []step) {
		for i, s := range want {
			c, ok := walk.Seek(h, root, s.Key)
			if c == nil || !ok || c.Depth() != s.depth {
				t.Fatalf("%s: Seek of %.20q: got %v, depth %d", what, s.Key, ok, c.Depth())
			}
			follow(t, what+": after "+strconv.Quote(s.Key), c, want[i+1:])
		}
	})
}

// P8.2: Seek of keys that are not there, though their chunks lead to another
// pair, or to a bucket.
func TestSeekNone(t *testing.T) {
	each(func(what string, h sip.Hasher, root *node.Node, want []step) {
		there := map[string]int{}
		for _, s := range want {
			there[s.Key] = 1
		}
		for _, s := range append(want, step{of("none"), 0}) {
			for _, key := range []string{s.Key, s.Key + "\x00", "\x00" + s.Key, "no " + s.Key, s.Value} {
				if c, ok := walk.Seek(h, root, key); ok != (there[key] == 1) || (c == nil) == ok {
					t.Fatalf("%s: Seek of %.20q: got %v", what, key, ok)
				}
			}
		}
	})
}

// P8.2: Seek of what is put in is there, and of what is dropped is not.
func TestSeekChanged(t *testing.T) {
	for _, h := range hashers() {
		before := trie(h.Hasher, nil, keys(30)...)
		for _, key := range keys(30) {
			after, _ := champ.Drop(h.Hasher, nil, before, key)
			if c, ok := walk.Seek(h.Hasher, after, key); c != nil || ok {
				t.Fatalf("%s: dropped: got %v", h.name, ok)
			}
			if _, ok := walk.Seek(h.Hasher, before, key); !ok {
				t.Fatalf("%s: got %v", h.name, ok)
			}
		}
	}
}

// cursors are two cursors after n steps: one by Next, one by Seek, if there is a
// pair to be sought.
func cursors(h sip.Hasher, root *node.Node, want []step, n int) []*walk.Cursor {
	c := walk.New(root)
	for range n {
		c.Next()
	}
	l := []*walk.Cursor{c}
	if n > 0 {
		c, _ = walk.Seek(h, root, want[n-1].Key)
		l = append(l, c)
	}
	return l
}

// P8.2: a copy goes on by itself, and so does the original, whichever is first,
// from the beginning, from the middle and at the end.
func TestCopy(t *testing.T) {
	each(func(what string, h sip.Hasher, root *node.Node, want []step) {
		for n := range len(want) + 1 {
			what := what + ": copied after " + strconv.Itoa(n)
			for _, c := range cursors(h, root, want, n) {
				one, two := c.Copy(), c.Copy()
				if one == c || one == two || one.Depth() != c.Depth() || n > 0 && c.Depth() != want[n-1].depth {
					t.Fatalf("%s: got depth %d", what, one.Depth())
				}
				follow(t, what, one, want[n:])
				follow(t, what+", the original", c, want[n:])
				follow(t, what+", another", two, want[n:])
			}
		}
	})
}

// P8.2: a copy and the original, step by step in turn; and a copy of one that
// has gone past the end.
func TestCopyInTurn(t *testing.T) {
	each(func(what string, h sip.Hasher, root *node.Node, want []step) {
		c := walk.New(root)
		last := c.Copy()
		for i, s := range want {
			d := c.Copy()
			p, _ := c.Next()
			q, _ := d.Next()
			if p != s.Pair || q != s.Pair || d.Depth() != s.depth {
				t.Fatalf("%s: step %d: got %.20q and %.20q", what, i, p.Key, q.Key)
			}
			d.Next()
			if c.Depth() != s.depth {
				t.Fatalf("%s: step %d: the copy changed the depth", what, i)
			}
			if i > 0 {
				follow(t, what+": one step behind", last, want[i:])
			}
			last = c.Copy()
		}
		follow(t, what, c, nil)
		follow(t, what+": copied after the end", c.Copy(), nil)
	})
}

// changes makes another trie of a root, by changes of all its pairs and some
// more.
func changes(h sip.Hasher, by *token.Token, root *node.Node, want []step) {
	for i, s := range want {
		switch i % 3 {
		case 0:
			root, _ = champ.Drop(h, by, root, s.Key)
		case 1:
			root, _ = champ.Put(h, by, root, pair.Pair{Key: s.Key, Value: "other"})
		default:
			root, _ = champ.Put(h, by, root, of("new "+s.Key))
		}
	}
	for _, s := range want {
		root, _ = champ.Drop(h, by, root, s.Key)
	}
}

// P8.2: a cursor under way goes through the trie as it was: whatever is made of
// it with no token, with one that owns none of its nodes, and with one that has
// ended.
func TestChangedUnderWay(t *testing.T) {
	other, _ := take(t)
	ended, pool := take(t)
	each(func(what string, h sip.Hasher, _ *node.Node, want []step) {
		root := trie(h, ended, slices.Sorted(maps.Keys(keysOf(want)))...)
		for n := 0; n <= len(want); n += 1 + len(want)/5 {
			for _, c := range cursors(h, root, want, n) {
				for _, by := range []*token.Token{nil, other} {
					changes(h, by, root, want)
					follow(t, what+": changed after "+strconv.Itoa(n), c.Copy(), want[n:])
				}
			}
		}
	})
	if err := pool.End(ended); err != api.OK {
		t.Fatal(err)
	}
	each(func(what string, h sip.Hasher, root *node.Node, want []step) {
		c, all := walk.New(root), walk.All(root)
		c.Next()
		changes(h, ended, root, want)
		if len(want) > 0 {
			follow(t, what+": changed with an ended token", c, want[1:])
		}
		if got := slices.Collect(all); !pair.Same(got, pairs(want)) {
			t.Errorf("%s: All: got %d", what, len(got))
		}
	})
}

func keysOf(l []step) map[string]int {
	m := map[string]int{}
	for _, s := range l {
		m[s.Key]++
	}
	return m
}

// P8.2: a trie that was made with a token, which has ended, and is changed with
// it while a cursor is under way.
func TestEndedOwner(t *testing.T) {
	for _, h := range hashers() {
		by, pool := take(t)
		root := trie(h.Hasher, by, keys(60)...)
		pool.End(by)
		want := order(h.Hasher, 0, keys(60))
		c := walk.New(root)
		for i, s := range want {
			root2, _ := champ.Drop(h.Hasher, by, root, want[len(want)-1-i].Key)
			if root2 == root {
				t.Fatalf("%s: changed in place", h.name)
			}
			if p, ok := c.Next(); p != s.Pair || !ok || c.Depth() != s.depth {
				t.Fatalf("%s: step %d: got %v, %v", h.name, i, p, ok)
			}
		}
		follow(t, h.name, c, nil)
	}
}

// P8.2: cursors of the versions of a map, each through its own.
func TestVersions(t *testing.T) {
	for _, h := range hashers() {
		root := champ.Empty()
		var cursors []*walk.Cursor
		l := keys(40)
		for _, key := range l {
			cursors = append(cursors, walk.New(root))
			root, _ = champ.Put(h.Hasher, nil, root, of(key))
		}
		for i, c := range cursors {
			follow(t, h.name+", version "+strconv.Itoa(i), c, order(h.Hasher, 0, l[:i]))
		}
	}
}

// P1, P2: while its token changes a trie in place, a cursor's walk ends without
// a panic, and it is the same each time.
func TestChangedInPlace(t *testing.T) {
	for _, h := range hashers() {
		var results [2][]pair.Pair
		for i := range results {
			by, _ := take(t)
			root := trie(h.Hasher, by, keys(60)...)
			c := walk.New(root)
			for n := 0; ; n++ {
				p, ok := c.Next()
				if !ok {
					break
				}
				if n > 500 {
					t.Fatalf("%s: no end", h.name)
				}
				results[i] = append(results[i], p)
				root, _ = champ.Drop(h.Hasher, by, root, keys(60)[n%60])
				root, _ = champ.Put(h.Hasher, by, root, of("new "+strconv.Itoa(n%50)))
			}
		}
		if !pair.Same(results[0], results[1]) {
			t.Errorf("%s: %d and %d pairs", h.name, len(results[0]), len(results[1]))
		}
	}
}

// noTries are nodes that are no tries: a bucket alone, buckets and inner nodes
// at the wrong levels, nodes deeper than tries are, nodes below themselves in
// one chunk and in all, and nodes that are below many others.
func noTries(by *token.Token) []*node.Node {
	full := node.Bucket().Put(nil, of("a")).Put(nil, of("b"))
	l := []*node.Node{node.Bucket(), full, node.Inner().SetKid(nil, 9, node.Inner()), node.Inner().SetKid(nil, 0, full).SetKid(nil, 1, full)}
	for _, end := range []*node.Node{node.Inner(), full, node.Inner().SetPair(nil, 5, of("c"))} {
		deep, wide := end, end
		for range 100 {
			deep = node.Inner().SetKid(nil, 0, deep)
			upper := node.Inner().SetPair(nil, 31, of("d"))
			for i := range 31 {
				upper = upper.SetKid(nil, i, wide)
			}
			wide = upper
		}
		l = append(l, deep, wide)
	}
	for _, chunks := range []int{1, 2, 31, 32} {
		for _, with := range []*token.Token{by, nil} {
			loop := node.Inner().SetPair(by, 31, of("a"))
			for i := range chunks {
				loop.SetKid(by, i, loop)
			}
			l = append(l, loop, loop.SetPair(with, 3, of("b")), node.Inner().SetKid(nil, 0, loop))
		}
	}
	return l
}

// left are the pairs ahead of a cursor, or the first of them if there are more
// than the walk of any of these nodes has.
func left(c *walk.Cursor) []pair.Pair {
	var l []pair.Pair
	for p, ok := c.Next(); ok && len(l) < 100000; p, ok = c.Next() {
		l = append(l, p)
	}
	return l
}

// P1: every call ends, and none panics, for nodes that are no tries. What
// cursors return is what All yields, and as many pairs as layer 6 counts.
func TestNoTries(t *testing.T) {
	by, _ := take(t)
	for i, root := range noTries(by) {
		want := slices.Collect(walk.All(root))
		if n := champ.Len(root); len(want) != n || len(walk.Sorted(root)) != n {
			t.Errorf("%d: got %d pairs, want %d", i, len(want), n)
		}
		c := walk.New(root)
		for n, p := range want {
			if n%(1+len(want)/9) == 0 && !pair.Same(left(c.Copy()), want[n:]) {
				t.Fatalf("%d: a copy after %d goes on otherwise", i, n)
			}
			if q, ok := c.Next(); p != q || !ok || c.Depth() == 0 {
				t.Fatalf("%d: got %v, %v", i, q, ok)
			}
		}
		follow(t, strconv.Itoa(i), c, nil)
	}
}

// P1: Seek, too, and what follows ends. It finds what layer 6 finds.
func TestSeekNoTries(t *testing.T) {
	by, _ := take(t)
	for i, root := range noTries(by) {
		for _, h := range hashers() {
			for _, key := range []string{"", "a", "b", "c", "d", "key 3"} {
				c, ok := walk.Seek(h.Hasher, root, key)
				if _, found := champ.Get(h.Hasher, root, key); found != ok || (c == nil) == ok {
					t.Fatalf("%d: %s: got %v", i, h.name, ok)
				}
				if n := len(left(c)); n == 100000 {
					t.Fatalf("%d: %s: no end", i, h.name)
				}
			}
		}
	}
}

// P1: Seek of a key to which the chunks lead by way of a node that is below
// itself.
func TestSeekInLoop(t *testing.T) {
	by, _ := take(t)
	for level := 1; level < 13; level++ {
		h := sip.Hasher{Mask: 31 << (5 * level)}
		for i := range 40 {
			key := "key " + strconv.Itoa(i)
			at := int(h.Hash(key) >> (5 * level))
			if at == 0 {
				continue
			}
			loop := node.Inner().SetPair(by, at, of(key))
			loop.SetKid(by, 0, loop)
			c, ok := walk.Seek(h, loop, key)
			if !ok || c.Depth() != level+1 {
				t.Fatalf("level %d: got %v, depth %d", level, ok, c.Depth())
			}
			if n := len(left(c)); n == 100000 {
				t.Fatalf("level %d: no end", level)
			}
		}
	}
}

// P1: Seek with another hasher than the trie's ends, and finds what layer 6
// finds.
func TestAnotherHasher(t *testing.T) {
	for _, made := range hashers() {
		root := trie(made.Hasher, nil, keys(60)...)
		for _, h := range hashers() {
			for _, key := range keys(60) {
				_, found := champ.Get(h.Hasher, root, key)
				if c, ok := walk.Seek(h.Hasher, root, key); ok != found || (c == nil) == ok {
					t.Fatalf("%s, made with %s: got %v", h.name, made.name, ok)
				}
			}
		}
	}
}

// P2: cursors do not affect one another, nor the trie.
func TestSameCalls(t *testing.T) {
	each(func(what string, h sip.Hasher, root *node.Node, want []step) {
		c := walk.New(root)
		for _, s := range want {
			c.Next()
			d, _ := walk.Seek(h, root, s.Key)
			d.Next()
			walk.New(root).Next()
			walk.Sorted(root)
			if c.Depth() != s.depth {
				t.Fatalf("%s: got depth %d", what, c.Depth())
			}
		}
		follow(t, what, c, nil)
		follow(t, what+", again", walk.New(root), want)
	})
}

// P8.1, P8.2: a trie of many pairs.
func TestMany(t *testing.T) {
	for _, h := range []sip.Hasher{sip.Full(sip.Key{}), {Mask: 0xff}} {
		by, _ := take(t)
		l := keys(20000)
		want := order(h, 0, l)
		root := trie(h, by, l...)
		follow(t, "many", walk.New(root), want)
		for i := 0; i < len(want); i += 1999 {
			c, ok := walk.Seek(h, root, want[i].Key)
			if !ok {
				t.Fatalf("%d: not there", i)
			}
			follow(t, "many, sought", c, want[i+1:])
		}
	}
}
