package tree_test

import (
	"maps"
	"math"
	"slices"
	"strconv"
	"strings"
	"testing"

	"quickset/api"
	"quickset/champ"
	"quickset/pair"
	"quickset/radix"
	"quickset/shape"
	"quickset/sip"
	"quickset/token"
	"quickset/tree"
)

// long and longer are the longest key, and one that is too long; wide and wider
// are such values.
var (
	long   = strings.Repeat("k", api.MaxKey)
	longer = strings.Repeat("k", api.MaxKey+1)
	wide   = strings.Repeat("v", api.MaxValue)
	wider  = strings.Repeat("v", api.MaxValue+1)
)

// odd are keys of any bytes, each of a right length; many begin with another.
var odd = []string{"", "\x00", "\x00\x00", "\x00\xff", "a", "a\x00", "a\xff", "ab", "abc", "b", "\n", " ", "\x7f", "\x80", "\xc3\xa9", "\xc3", "\xff", "\xff\xff", "\xff\x00", long, long[1:], long[2:] + "\xff"}

// start is a tree without pairs to start from.
type start struct {
	name string
	tree.Tree
}

// hashers are some with all bits, with few, and with none.
func hashers() []sip.Hasher {
	key := sip.Key{K0: 0x0706050403020100, K1: 0x0f0e0d0c0b0a0908}
	l := []sip.Hasher{sip.Full(key), sip.Full(sip.Key{}), {}, {Key: key}}
	for _, mask := range []uint64{1, 1 << 63, 0x1f, 0x3e0, 3 << 36, ^uint64(0x1f), 0x1084210842108421} {
		l = append(l, sip.Hasher{Key: key, Mask: mask})
	}
	return l
}

// starts are a Champ for each hasher, a Radix, and the zero Tree.
func starts() []start {
	l := []start{{"zero", tree.Tree{}}, {"radix", made(tree.Radix, sip.Hasher{})}}
	for i, h := range hashers() {
		l = append(l, start{"champ " + strconv.Itoa(i), made(tree.Champ, h)})
	}
	return l
}

// made returns a tree without pairs of a kind that exists.
func made(kind int, h sip.Hasher) tree.Tree {
	x, err := tree.New(kind, h)
	if err != api.OK {
		panic("a kind that does not exist")
	}
	return x
}

func of(key string) pair.Pair {
	return pair.Pair{Key: key, Value: "<" + key + ">"}
}

// keys are n keys in an order that is that of neither their bytes nor their
// hashes.
func keys(n int) []string {
	var l []string
	for i := range n {
		l = append(l, "key "+strconv.Itoa(i*7919%n))
	}
	return l
}

// filled returns the tree with these keys, put with a token.
func filled(t *testing.T, by *token.Token, x tree.Tree, l ...string) tree.Tree {
	t.Helper()
	for _, key := range l {
		var err api.Errno
		if x, err = x.With(by, of(key)); err != api.OK {
			t.Fatalf("With %.20q: %d", key, err)
		}
	}
	return x
}

// emptied returns the tree without these keys, which are in it.
func emptied(t *testing.T, by *token.Token, x tree.Tree, l ...string) tree.Tree {
	t.Helper()
	for _, key := range l {
		var err api.Errno
		if x, err = x.Without(by, key); err != api.OK {
			t.Fatalf("Without %.20q: %d", key, err)
		}
	}
	return x
}

// take returns a live token, and its pool.
func take(t *testing.T) (*token.Token, *token.Pool) {
	t.Helper()
	pool, err := token.New(1)
	if err != api.OK {
		t.Fatal(err)
	}
	by, err := pool.Take()
	if err != api.OK {
		t.Fatal(err)
	}
	return by, pool
}

// ended returns a token that is not live any more.
func ended(t *testing.T) *token.Token {
	t.Helper()
	by, pool := take(t)
	if err := pool.End(by); err != api.OK {
		t.Fatal(err)
	}
	return by
}

func mapOf(l ...string) map[string]string {
	m := map[string]string{}
	for _, key := range l {
		m[key] = of(key).Value
	}
	return m
}

func pairsOf(m map[string]string) []pair.Pair {
	var l []pair.Pair
	for _, key := range slices.Sorted(maps.Keys(m)) {
		l = append(l, pair.Pair{Key: key, Value: m[key]})
	}
	return l
}

// encoded is the Shape of a tree by what layers 7 and 11 say of its root.
func encoded(x tree.Tree) []byte {
	if x.Kind() == tree.Radix {
		return append([]byte{1}, radix.Shape(x.Radix())...)
	}
	return append([]byte{0}, shape.Of(x.Champ())...)
}

// check holds a tree against its map: its contents, its form, its root.
func check(t *testing.T, what string, x tree.Tree, m map[string]string) {
	t.Helper()
	if got := x.Len(); got != len(m) {
		t.Fatalf("%s: Len: got %d, want %d", what, got, len(m))
	}
	if got, want := x.Pairs(), pairsOf(m); !slices.Equal(got, want) {
		t.Fatalf("%s: Pairs: got %.200q, want %.200q", what, got, want)
	}
	for key, want := range m {
		if got, ok := x.Get(key); got != want || !ok {
			t.Fatalf("%s: Get of %.20q: got %.20q, %v", what, key, got, ok)
		}
	}
	for _, key := range append(odd, longer, "none", "key ", "key 1 ") {
		if _, there := m[key]; there {
			continue
		}
		if got, ok := x.Get(key); got != "" || ok {
			t.Fatalf("%s: Get of %.20q, which is not there: got %.20q, %v", what, key, got, ok)
		}
	}
	if !x.Canon() {
		t.Fatalf("%s: not Canon", what)
	}
	if (x.Champ() == nil) != (x.Kind() == tree.Radix) || (x.Radix() == nil) != (x.Kind() == tree.Champ) {
		t.Fatalf("%s: got the roots %v and %v", what, x.Champ(), x.Radix())
	}
	if got := x.Shape(); !slices.Equal(got, encoded(x)) {
		t.Fatalf("%s: Shape: got %.100x", what, got)
	}
}

// P14.1: New returns a tree without pairs, of that kind and with that hasher; a
// Radix has none. Its root is the same one each time.
func TestNew(t *testing.T) {
	for _, h := range hashers() {
		c, r := made(tree.Champ, h), made(tree.Radix, h)
		check(t, "champ", c, nil)
		check(t, "radix", r, nil)
		if c.Kind() != 0 || c.Hasher() != h || c.Champ() != c.Champ() || c.Radix() != nil {
			t.Errorf("champ %v: got %d, %v", h, c.Kind(), c.Hasher())
		}
		if r.Kind() != 1 || r.Hasher() != (sip.Hasher{}) || r.Radix() != r.Radix() || r.Champ() != nil {
			t.Errorf("radix %v: got %d, %v", h, r.Kind(), r.Hasher())
		}
	}
}

// P14.1: kinds that do not exist.
func TestNoKind(t *testing.T) {
	for _, kind := range []int{2, 3, 255, 256, 257, 1 << 32, 1<<32 + 1, math.MaxInt, -1, -2, -255, -256, math.MinInt, math.MinInt + 1} {
		for _, h := range hashers() {
			if x, err := tree.New(kind, h); err != api.ErrKind || x != (tree.Tree{}) {
				t.Errorf("%d: got %v, %d", kind, x, err)
			}
		}
	}
}

// P14.1: a zero Tree is a Champ with a zero hasher and without pairs, to which
// everything can be done.
func TestZero(t *testing.T) {
	var x tree.Tree
	check(t, "zero", x, nil)
	if x.Kind() != tree.Champ || x.Hasher() != (sip.Hasher{}) || x.Champ() == nil || x.Champ().Len() != 0 || x.Champ().IsBucket() || x.Radix() != nil {
		t.Errorf("got %d, %v, %v, %v", x.Kind(), x.Hasher(), x.Champ(), x.Radix())
	}
	if !tree.Same(x, made(tree.Champ, sip.Hasher{})) || !tree.Same(made(tree.Champ, sip.Hasher{}), x) || !tree.One(x, x) {
		t.Error("not the Champ with a zero hasher")
	}
	live, _ := take(t)
	for _, by := range []*token.Token{nil, live, ended(t)} {
		y := filled(t, by, x, "b", "a")
		check(t, "zero", x, nil)
		check(t, "zero with two", y, mapOf("a", "b"))
		if y.Champ().Owned(live) != (by == live) {
			t.Error("its root is not made with the token")
		}
		if z, err := x.Without(by, "a"); err != api.ErrNone || z != x || !tree.One(z, x) {
			t.Errorf("Without: got %v, %d", z, err)
		}
	}
}

// P14.1: OfChamp and OfRadix return trees with these very roots.
func TestOf(t *testing.T) {
	for _, h := range hashers() {
		root := champ.Empty()
		for i := range 3 {
			x := tree.OfChamp(h, root)
			check(t, "of champ", x, mapOf(keys(3)[:i]...))
			if x.Champ() != root || x.Radix() != nil || x.Kind() != tree.Champ || x.Hasher() != h {
				t.Fatalf("got %v, %v, %d, %v", x.Champ(), x.Radix(), x.Kind(), x.Hasher())
			}
			root, _ = champ.Put(h, nil, root, of(keys(3)[i]))
		}
	}
	root := radix.Empty()
	for i := range 3 {
		x := tree.OfRadix(root)
		check(t, "of radix", x, mapOf(keys(3)[:i]...))
		if x.Radix() != root || x.Champ() != nil || x.Kind() != tree.Radix || x.Hasher() != (sip.Hasher{}) {
			t.Fatalf("got %v, %v, %d, %v", x.Champ(), x.Radix(), x.Kind(), x.Hasher())
		}
		root, _ = radix.Put(nil, root, of(keys(3)[i]))
	}
}

// P14.1: with nil, OfChamp and OfRadix return trees without pairs.
func TestOfNil(t *testing.T) {
	for _, h := range hashers() {
		x := tree.OfChamp(h, nil)
		check(t, "of no champ", x, nil)
		if x.Kind() != tree.Champ || x.Hasher() != h || x.Champ() != x.Champ() || !tree.Same(x, made(tree.Champ, h)) {
			t.Errorf("got %d, %v", x.Kind(), x.Hasher())
		}
		check(t, "with two", filled(t, nil, x, "a", "b"), mapOf("a", "b"))
	}
	x := tree.OfRadix(nil)
	check(t, "of no radix", x, nil)
	if x.Kind() != tree.Radix || x.Hasher() != (sip.Hasher{}) || x.Radix() != x.Radix() || !tree.Same(x, made(tree.Radix, hashers()[0])) {
		t.Errorf("got %d, %v", x.Kind(), x.Hasher())
	}
	check(t, "with two", filled(t, nil, x, "a", "b"), mapOf("a", "b"))
}

// P14.2: the document's example.
func TestExample(t *testing.T) {
	x, err := made(tree.Radix, sip.Hasher{}).With(nil, pair.Pair{Key: "a"})
	if l := x.Pairs(); err != api.OK || !slices.Equal(l, []pair.Pair{{Key: "a"}}) {
		t.Errorf("got %q, %d", l, err)
	}
}

// P14.2: the roots are those of Put and Drop of layers 6 and 11.
func TestRoots(t *testing.T) {
	for _, s := range starts() {
		x, c, r := s.Tree, s.Champ(), s.Radix()
		for i, key := range append(keys(40), odd...) {
			x, _ = x.With(nil, of(key))
			c, _ = champ.Put(s.Hasher(), nil, c, of(key))
			r, _ = radix.Put(nil, r, of(key))
			if i%3 == 0 {
				x, _ = x.Without(nil, keys(40)[i/2%40])
				c, _ = champ.Drop(s.Hasher(), nil, c, keys(40)[i/2%40])
				r, _ = radix.Drop(nil, r, keys(40)[i/2%40])
			}
			if s.Kind() == tree.Radix && !radix.Same(x.Radix(), r) || s.Kind() == tree.Champ && !shape.Same(x.Champ(), c) {
				t.Fatalf("%s: another root after %.20q", s.name, key)
			}
		}
		if !tree.Like(x, s.Tree) {
			t.Errorf("%s: got %d, %v", s.name, x.Kind(), x.Hasher())
		}
	}
}

// script makes changes one after the other, and holds each result against a map.
// Without a token the trees before stay as they were.
func script(t *testing.T, s start, by *token.Token, free bool) {
	names := append(keys(30), odd...)
	m := map[string]string{}
	x := s.Tree
	for i := range 300 {
		key := names[i*i*31%len(names)]
		before, had := x.Shape(), maps.Clone(m)
		y, err, want := x, api.OK, api.OK
		if _, there := m[key]; i%3 == 2 {
			if !there {
				want = api.ErrNone
			}
			delete(m, key)
			y, err = x.Without(by, key)
		} else {
			m[key] = strconv.Itoa(i / 40)
			y, err = x.With(by, pair.Pair{Key: key, Value: m[key]})
		}
		if err != want {
			t.Fatalf("%s: %d: %.20q: got %d, want %d", s.name, i, key, err, want)
		}
		if (maps.Equal(m, had) || err != api.OK) && !tree.One(x, y) {
			t.Fatalf("%s: %d: %.20q: not the tree itself", s.name, i, key)
		}
		check(t, s.name, y, m)
		if free && !slices.Equal(x.Shape(), before) {
			t.Fatalf("%s: %d: %.20q: the tree before has changed", s.name, i, key)
		}
		x = y
	}
	check(t, s.name, s.Tree, nil)
}

// P14.2: changes with no token, with a live one, and with one that has ended.
func TestScript(t *testing.T) {
	live, _ := take(t)
	for _, s := range starts() {
		script(t, s, nil, true)
		script(t, s, ended(t), true)
		script(t, s, live, false)
	}
}

// P14.2: the empty key, an empty value, and the longest ones.
func TestEdges(t *testing.T) {
	for _, s := range starts() {
		x, err := s.With(nil, pair.Pair{})
		check(t, s.name, x, map[string]string{"": ""})
		if err != api.OK {
			t.Errorf("%s: got %d", s.name, err)
		}
		y, err := x.With(nil, pair.Pair{Key: long, Value: wide})
		check(t, s.name, y, map[string]string{"": "", long: wide})
		if err != api.OK {
			t.Errorf("%s: got %d", s.name, err)
		}
		y, err = y.Without(nil, "")
		check(t, s.name, y, map[string]string{long: wide})
		if err != api.OK {
			t.Errorf("%s: got %d", s.name, err)
		}
		check(t, s.name, emptied(t, nil, y, long), nil)
	}
}

// P14.2: each key can be the last one that goes.
func TestLast(t *testing.T) {
	live, _ := take(t)
	for _, s := range starts() {
		for _, by := range []*token.Token{nil, live} {
			for _, last := range odd {
				x := filled(t, by, s.Tree, odd...)
				for _, key := range odd {
					if key != last {
						x = emptied(t, by, x, key)
					}
				}
				check(t, s.name, x, mapOf(last))
				x = emptied(t, by, x, last)
				check(t, s.name, x, nil)
				if !tree.Same(x, s.Tree) {
					t.Fatalf("%s: not the tree without pairs", s.name)
				}
				if y, err := x.Without(by, last); err != api.ErrNone || !tree.One(x, y) {
					t.Fatalf("%s: again: got %d", s.name, err)
				}
			}
		}
	}
}

// refused checks that a call has returned the tree itself and an error, and has
// changed nothing.
func refused(t *testing.T, what string, x, got tree.Tree, err, want api.Errno, m map[string]string) {
	t.Helper()
	if err != want || !tree.One(got, x) || got != x {
		t.Fatalf("%s: got %d, want %d; itself: %v", what, err, want, tree.One(got, x))
	}
	check(t, what, x, m)
}

// P14.2: pairs that are not right, each with the error that layer 3's Right names
// first; keys that are too long, or not there. The token owns all nodes.
func TestRefused(t *testing.T) {
	live, _ := take(t)
	for _, s := range starts() {
		for _, l := range [][]string{nil, {""}, {"a", long}, append(keys(20), odd...)} {
			for _, by := range []*token.Token{nil, live, ended(t)} {
				x, m := filled(t, by, s.Tree, l...), mapOf(l...)
				for _, c := range []struct {
					p    pair.Pair
					want api.Errno
				}{
					{pair.Pair{Key: longer}, api.ErrKey}, {pair.Pair{Key: longer, Value: wide}, api.ErrKey}, {pair.Pair{Key: longer, Value: wider}, api.ErrKey}, {pair.Pair{Key: strings.Repeat("\x00", 1<<16), Value: wider}, api.ErrKey},
					{pair.Pair{Value: wider}, api.ErrValue}, {pair.Pair{Key: "a", Value: wider}, api.ErrValue}, {pair.Pair{Key: long, Value: wider}, api.ErrValue}, {pair.Pair{Key: "none", Value: strings.Repeat("\x00", 1<<16)}, api.ErrValue},
				} {
					y, err := x.With(by, c.p)
					refused(t, s.name+": With", x, y, err, c.want, m)
				}
				for _, key := range []string{longer, longer + "k", strings.Repeat("\xff", 1<<16)} {
					y, err := x.Without(by, key)
					refused(t, s.name+": Without", x, y, err, api.ErrKey, m)
				}
				for _, key := range []string{"none", "key", "key 20", "aa", long[3:], long[:255] + "l", "\xfe"} {
					y, err := x.Without(by, key)
					refused(t, s.name+": Without", x, y, err, api.ErrNone, m)
				}
			}
		}
	}
}

// P14.2: layers 6 and 11 take a key that is too long here. Without does not find
// it, Get does; a value that is too long can go.
func TestTooLongInside(t *testing.T) {
	m := map[string]string{longer: "1", "a": wider}
	c, r := champ.Empty(), radix.Empty()
	for _, p := range pairsOf(m) {
		c, _ = champ.Put(hashers()[0], nil, c, p)
		r, _ = radix.Put(nil, r, p)
	}
	for _, x := range []tree.Tree{tree.OfChamp(hashers()[0], c), tree.OfRadix(r)} {
		if got, ok := x.Get(longer); got != "1" || !ok || x.Len() != 2 || !slices.Equal(x.Pairs(), pairsOf(m)) {
			t.Errorf("%d: got %q, %v", x.Kind(), got, ok)
		}
		if y, err := x.Without(nil, longer); err != api.ErrKey || !tree.One(x, y) {
			t.Errorf("%d: got %d", x.Kind(), err)
		}
		if y, err := x.With(nil, pair.Pair{Key: longer, Value: "1"}); err != api.ErrKey || !tree.One(x, y) {
			t.Errorf("%d: got %d", x.Kind(), err)
		}
		y, err := x.Without(nil, "a")
		if err != api.OK || !slices.Equal(y.Pairs(), []pair.Pair{{Key: longer, Value: "1"}}) {
			t.Errorf("%d: got %d", x.Kind(), err)
		}
	}
}

// owned reports whether the root of a tree is a token's own.
func owned(x tree.Tree, by *token.Token) bool {
	return x.Champ().Owned(by) || x.Radix().Owned(by)
}

// P14.2: a live token changes in place the tree that it owns, and the trees with
// that root are seen to change.
func TestLive(t *testing.T) {
	for _, s := range starts() {
		by, pool := take(t)
		other, _ := take(t)
		x := filled(t, by, s.Tree, keys(30)...)
		if !owned(x, by) || owned(x, other) {
			t.Fatalf("%s: not made with the token", s.name)
		}
		y := filled(t, by, x, "new")
		if !tree.One(x, y) {
			t.Fatalf("%s: With is not in place", s.name)
		}
		check(t, s.name, x, mapOf(append(keys(30), "new")...))
		y = emptied(t, by, x, "new", "key 3")
		if _, there := x.Get("key 3"); !tree.One(x, y) || there || x.Len() != 29 {
			t.Fatalf("%s: Without is not in place", s.name)
		}
		x = filled(t, by, x, "key 3")
		for _, with := range []*token.Token{nil, other, ended(t)} {
			apart(t, s.name+", another token", x, with)
		}
		if err := pool.End(by); err != api.OK {
			t.Fatal(err)
		}
		apart(t, s.name+", its token after its end", x, by)
		again, err := pool.Take()
		if err != api.OK || again.ID() != by.ID() {
			t.Fatal(err)
		}
		apart(t, s.name+", the same id again", x, again)
		check(t, s.name, s.Tree, nil)
	}
}

// apart checks that changes of a tree of keys(30) with a token that does not own
// it do not change it.
func apart(t *testing.T, what string, x tree.Tree, by *token.Token) {
	t.Helper()
	m := mapOf(keys(30)...)
	check(t, what, x, m)
	before := x.Shape()
	y := filled(t, by, x, "new", "")
	z, err := x.With(by, pair.Pair{Key: "key 3", Value: "another"})
	w := emptied(t, by, x, keys(30)...)
	if err != api.OK || tree.One(x, y) || tree.One(x, z) || tree.One(x, w) || owned(x, by) {
		t.Fatalf("%s: changed in place", what)
	}
	if !slices.Equal(x.Shape(), before) {
		t.Fatalf("%s: another Shape", what)
	}
	check(t, what, x, m)
	check(t, what, y, mapOf(append(keys(30), "new", "")...))
	check(t, what, w, nil)
	m["key 3"] = "another"
	check(t, what, z, m)
}

// Values: changing one does not change another, nor what it was made from.
func TestValues(t *testing.T) {
	for _, s := range starts() {
		x := filled(t, nil, s.Tree, "a", "b")
		y := x
		y = filled(t, nil, y, "c")
		z := emptied(t, nil, x, "a")
		check(t, s.name, x, mapOf("a", "b"))
		check(t, s.name, y, mapOf("a", "b", "c"))
		check(t, s.name, z, mapOf("b"))
		check(t, s.name, s.Tree, nil)
	}
}

// Memory: a list can be overwritten, its spare capacity, too.
func TestMemory(t *testing.T) {
	for _, s := range starts() {
		x := filled(t, nil, s.Tree, keys(50)...)
		l, m := x.Pairs(), x.Pairs()
		p, q := x.Shape(), x.Shape()
		clear(l[:cap(l)])
		clear(p[:cap(p)])
		if !slices.Equal(m, pairsOf(mapOf(keys(50)...))) || !slices.Equal(q, encoded(x)) {
			t.Errorf("%s: two results share memory", s.name)
		}
		check(t, s.name, x, mapOf(keys(50)...))
	}
}
