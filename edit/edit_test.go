package edit_test

import (
	"maps"
	"slices"
	"strconv"
	"strings"
	"testing"

	"quickset/api"
	"quickset/edit"
	"quickset/node"
	"quickset/pair"
	"quickset/radix"
	"quickset/sip"
	"quickset/span"
	"quickset/token"
	"quickset/tree"
	"quickset/walk"
)

// long and longer are the longest key, and one that is too long; wide and wider
// are such values.
var (
	long   = strings.Repeat("k", api.MaxKey)
	longer = strings.Repeat("k", api.MaxKey+1)
	wide   = strings.Repeat("v", api.MaxValue)
	wider  = strings.Repeat("v", api.MaxValue+1)
)

// odd are keys of any bytes, each of a right length; many begin with another.
var odd = []string{"", "\x00", "\x00\x00", "a", "a\x00", "a\xff", "ab", "abc", "b", "\x80", "\xc3\xa9", "\xc3", "\xff", "\xff\xff", long, long[1:], long[2:] + "\xff"}

// start is a tree, with its map, on which edits begin.
type start struct {
	name string
	tree.Tree
	m map[string]string
}

// hashers are some with all bits, with few, and with none.
func hashers() []sip.Hasher {
	key := sip.Key{K0: 0x0706050403020100, K1: 0x0f0e0d0c0b0a0908}
	return []sip.Hasher{sip.Full(key), {}, {Key: key, Mask: 0x1f}, {Key: key, Mask: 3 << 36}, {Key: key, Mask: 1 << 63}}
}

// copied returns a map of its own, never nil.
func (s start) copied() map[string]string {
	m := map[string]string{}
	maps.Copy(m, s.m)
	return m
}

// starts are the zero Tree, and trees of either kind without pairs and with some.
func starts() []start {
	l := []start{{"zero", tree.Tree{}, nil}, {"of nil", tree.OfRadix(nil), nil}}
	for i, h := range hashers() {
		for kind := range 2 {
			name := strconv.Itoa(kind) + ", hasher " + strconv.Itoa(i)
			empty := made(kind, h)
			l = append(l, start{name + ", empty", empty, nil})
			l = append(l, start{name + ", one", put(empty, nil, "a"), mapOf("a")})
			l = append(l, start{name + ", some", put(empty, nil, append(keys(20), odd...)...), mapOf(append(keys(20), odd...)...)})
		}
	}
	return l
}

// made returns a tree without pairs of a kind that exists.
func made(kind int, h sip.Hasher) tree.Tree {
	x, err := tree.New(kind, h)
	if err != api.OK {
		panic("a kind that does not exist")
	}
	return x
}

// put returns the tree with these keys, each of a right length.
func put(x tree.Tree, by *token.Token, l ...string) tree.Tree {
	for _, key := range l {
		x, _ = x.With(by, of(key))
	}
	return x
}

func of(key string) pair.Pair {
	return pair.Pair{Key: key, Value: "<" + key + ">"}
}

// keys are n keys in an order that is that of neither their bytes nor their
// hashes.
func keys(n int) []string {
	var l []string
	for i := range n {
		l = append(l, "key "+strconv.Itoa(i*7919%n))
	}
	return l
}

func mapOf(l ...string) map[string]string {
	m := map[string]string{}
	for _, key := range l {
		m[key] = of(key).Value
	}
	return m
}

func pairsOf(m map[string]string) []pair.Pair {
	var l []pair.Pair
	for _, key := range slices.Sorted(maps.Keys(m)) {
		l = append(l, pair.Pair{Key: key, Value: m[key]})
	}
	return l
}

func pools(t *testing.T, n int) *token.Pool {
	t.Helper()
	pool, err := token.New(n)
	if err != api.OK {
		t.Fatal(err)
	}
	return pool
}

func begin(t *testing.T, pool *token.Pool, x tree.Tree) *edit.Edit {
	t.Helper()
	e, err := edit.Begin(pool, x)
	if err != api.OK || e == nil {
		t.Fatalf("Begin: got %v, %d", e, err)
	}
	return e
}

// is holds a tree against its map, and its form against that of a tree which is
// made of the map alone.
func is(t *testing.T, what string, x tree.Tree, m map[string]string) {
	t.Helper()
	if got := x.Pairs(); !slices.Equal(got, pairsOf(m)) || x.Len() != len(m) {
		t.Fatalf("%s: got %.200q, want %.200q", what, got, pairsOf(m))
	}
	want := made(x.Kind(), x.Hasher())
	for _, p := range pairsOf(m) {
		want, _ = want.With(nil, p)
	}
	if !x.Canon() || !tree.Same(x, want) {
		t.Fatalf("%s: not the tree of its map", what)
	}
}

// has holds an edit against the map of its present contents.
func has(t *testing.T, what string, e *edit.Edit, m map[string]string) {
	t.Helper()
	if got := e.Pairs(); !slices.Equal(got, pairsOf(m)) || e.Len() != len(m) {
		t.Fatalf("%s: got %d, %.200q, want %.200q", what, e.Len(), got, pairsOf(m))
	}
	for key, want := range m {
		if got, ok := e.Get(key); got != want || !ok {
			t.Fatalf("%s: Get of %.20q: got %.20q, %v", what, key, got, ok)
		}
	}
	for _, key := range append(odd, longer, "none", "key ", "key 1 ") {
		if _, there := m[key]; there {
			continue
		}
		if got, ok := e.Get(key); got != "" || ok {
			t.Fatalf("%s: Get of %.20q, which is not there: got %.20q, %v", what, key, got, ok)
		}
	}
}

// goes checks that an edit goes on, with a token of that id.
func goes(t *testing.T, what string, e *edit.Edit, id int) {
	t.Helper()
	if x, ok := e.Result(); e.Frozen() || ok || x != (tree.Tree{}) || e.ID() != id {
		t.Fatalf("%s: frozen: %v; got %v, %v, id %d, want %d", what, e.Frozen(), x, ok, e.ID(), id)
	}
}

// act puts a pair, or drops a key, in an edit and in its map, and holds the error
// against the map.
func act(t *testing.T, what string, e *edit.Edit, m map[string]string, drop bool, p pair.Pair) {
	t.Helper()
	_, there := m[p.Key]
	got, want := api.OK, api.OK
	if !drop {
		got = e.Put(p)
		m[p.Key] = p.Value
	} else {
		got = e.Drop(p.Key)
		delete(m, p.Key)
	}
	if drop && !there {
		want = api.ErrNone
	}
	if got != want {
		t.Fatalf("%s: %.20q: got %d, want %d", what, p.Key, got, want)
	}
}

// P16.1 and P16.2: the document's example.
func TestExample(t *testing.T) {
	for _, s := range starts() {
		e := begin(t, pools(t, 1), s.Tree)
		if err := e.Put(pair.Pair{Key: "a"}); err != api.OK {
			t.Errorf("%s: got %d", s.name, err)
		}
		if _, err := e.Freeze(); err != api.OK {
			t.Errorf("%s: got %d", s.name, err)
		}
		if err := e.Put(pair.Pair{Key: "b"}); err != api.ErrFrozen {
			t.Errorf("%s: got %d", s.name, err)
		}
	}
}

// P16.2: a nil edit. Arguments that are wrong themselves do not matter.
func TestNil(t *testing.T) {
	var e *edit.Edit
	for _, p := range []pair.Pair{{}, of("a"), {Key: longer}, {Value: wider}} {
		if a, b := e.Put(p), e.Drop(p.Key); a != api.ErrNone || b != api.ErrNone {
			t.Errorf("got %d and %d", a, b)
		}
		if v, ok := e.Get(p.Key); v != "" || ok {
			t.Errorf("Get: got %q, %v", v, ok)
		}
	}
	if x, err := e.Snap(); err != api.ErrNone || x != (tree.Tree{}) {
		t.Errorf("Snap: got %v, %d", x, err)
	}
	if x, err := e.Freeze(); err != api.ErrNone || x != (tree.Tree{}) {
		t.Errorf("Freeze: got %v, %d", x, err)
	}
	if x, ok := e.Result(); ok || x != (tree.Tree{}) {
		t.Errorf("Result: got %v, %v", x, ok)
	}
	if e.Len() != 0 || len(e.Pairs()) != 0 || e.Frozen() || e.ID() != 0 {
		t.Errorf("got %d, %v, %v, %d", e.Len(), e.Pairs(), e.Frozen(), e.ID())
	}
}

// P16.1 and P16.3: the errors of the pool's Take, ahead of those of the changes:
// a nil pool, and one that has no more ids.
func TestNoToken(t *testing.T) {
	full := pools(t, 2)
	for want, pool := range map[api.Errno]*token.Pool{api.ErrNone: nil, api.ErrFull: full} {
		if pool != nil {
			begin(t, pool, tree.Tree{})
			begin(t, pool, tree.Tree{})
		}
		for _, s := range starts() {
			if e, err := edit.Begin(pool, s.Tree); e != nil || err != want {
				t.Errorf("%s: Begin: got %v, %d, want %d", s.name, e, err, want)
			}
			for _, p := range []pair.Pair{of("x"), {Key: longer}} {
				if x, err := edit.Run(pool, s.Tree, []pair.Pair{p}, []string{longer}); x != (tree.Tree{}) || err != want {
					t.Errorf("%s: Run: got %v, %d, want %d", s.name, x, err, want)
				}
			}
			is(t, s.name, s.Tree, s.m)
		}
	}
	if full.Out() != 2 {
		t.Errorf("got %d tokens out", full.Out())
	}
}

// P16.1: Begin takes one token, whose id is the edit's, and changes nothing.
func TestBegin(t *testing.T) {
	for _, s := range starts() {
		pool := pools(t, 3)
		for i := range 3 {
			e := begin(t, pool, s.Tree)
			has(t, s.name, e, s.m)
			goes(t, s.name, e, i+1)
			if pool.Out() != i+1 {
				t.Errorf("%s: %d tokens out", s.name, pool.Out())
			}
		}
		is(t, s.name, s.Tree, s.m)
	}
}

// P16.1: changes one after the other, also such as change nothing, held against
// a map. The tree of the edit stands, and its cursors go on as they were.
func TestScript(t *testing.T) {
	names := append(keys(30), odd...)
	for _, s := range starts() {
		pool := pools(t, 2)
		before := s.Shape()
		c, d := walk.New(s.Champ()), span.New(s.Radix(), span.All(), false)
		e, m := begin(t, pool, s.Tree), s.copied()
		for i := range 250 {
			p := pair.Pair{Key: names[i*i*31%len(names)], Value: strconv.Itoa(i / 40)}
			act(t, s.name, e, m, i%3 == 2, p)
			has(t, s.name, e, m)
			goes(t, s.name, e, 1)
		}
		if !slices.Equal(s.Shape(), before) || pool.Out() != 1 {
			t.Fatalf("%s: the tree has changed, or %d tokens are out", s.name, pool.Out())
		}
		is(t, s.name, s.Tree, s.m)
		left := len(s.m)
		for _, next := range []func() (pair.Pair, bool){c.Next, d.Next} {
			for p, ok := next(); ok; p, ok = next() {
				left--
				if s.m[p.Key] != p.Value {
					t.Fatalf("%s: a cursor has got %q", s.name, p)
				}
			}
		}
		if left != 0 {
			t.Fatalf("%s: cursors have left out %d pairs", s.name, left)
		}
	}
}

// P16.1: all keys go, one after the other, and come back.
func TestEmptied(t *testing.T) {
	for _, s := range starts() {
		e, m := begin(t, pools(t, 1), s.Tree), s.copied()
		for range 2 {
			for _, key := range slices.Sorted(maps.Keys(m)) {
				act(t, s.name, e, m, true, of(key))
			}
			has(t, s.name, e, nil)
			act(t, s.name, e, m, true, of("a"))
			for _, key := range append(keys(20), odd...) {
				act(t, s.name, e, m, false, of(key))
			}
			has(t, s.name, e, m)
		}
		x, err := e.Freeze()
		if err != api.OK {
			t.Errorf("%s: got %d", s.name, err)
		}
		is(t, s.name, x, m)
		is(t, s.name, s.Tree, s.m)
	}
}

// wrongs checks that changes which are refused with the errors of layer 14 change
// nothing.
func wrongs(t *testing.T, what string, e *edit.Edit, m map[string]string) {
	t.Helper()
	for _, c := range []struct {
		p    pair.Pair
		want api.Errno
	}{
		{pair.Pair{Key: longer}, api.ErrKey}, {pair.Pair{Key: longer, Value: wider}, api.ErrKey}, {pair.Pair{Key: strings.Repeat("\x00", 1<<16), Value: wide}, api.ErrKey},
		{pair.Pair{Value: wider}, api.ErrValue}, {pair.Pair{Key: "a", Value: wider}, api.ErrValue}, {pair.Pair{Key: long, Value: wider}, api.ErrValue},
	} {
		if err := e.Put(c.p); err != c.want {
			t.Fatalf("%s: Put: got %d, want %d", what, err, c.want)
		}
		has(t, what, e, m)
	}
	for key, want := range map[string]api.Errno{longer: api.ErrKey, strings.Repeat("\xff", 1<<16): api.ErrKey, "none": api.ErrNone, "key": api.ErrNone, "aa": api.ErrNone, long[3:]: api.ErrNone, "\xfe": api.ErrNone} {
		if err := e.Drop(key); err != want {
			t.Fatalf("%s: Drop of %.20q: got %d, want %d", what, key, err, want)
		}
		has(t, what, e, m)
	}
}

// P16.1: the errors of Put and Drop, of a new edit and of one with changes; the
// longest key and value are right.
func TestRefused(t *testing.T) {
	for _, s := range starts() {
		e, m := begin(t, pools(t, 1), s.Tree), s.copied()
		wrongs(t, s.name, e, m)
		act(t, s.name, e, m, false, of("new"))
		act(t, s.name, e, m, false, pair.Pair{Key: long, Value: wide})
		act(t, s.name, e, m, false, pair.Pair{})
		wrongs(t, s.name, e, m)
		goes(t, s.name, e, 1)
		act(t, s.name, e, m, true, of("new"))
		act(t, s.name, e, m, true, of(long))
		has(t, s.name, e, m)
		is(t, s.name, s.Tree, s.m)
	}
}

// P16.1: several edits of one tree, of one pool and of another one, each see only
// their own changes.
func TestApart(t *testing.T) {
	for _, s := range starts() {
		one, other := pools(t, 3), pools(t, 1)
		l := []*edit.Edit{begin(t, one, s.Tree), begin(t, one, s.Tree), begin(t, one, s.Tree), begin(t, other, s.Tree)}
		if l[0].ID() != l[3].ID() {
			t.Fatalf("%s: got the ids %d and %d", s.name, l[0].ID(), l[3].ID())
		}
		var ms []map[string]string
		for range l {
			ms = append(ms, s.copied())
		}
		names := append(keys(25), odd...)
		for i := range 120 {
			for j, e := range l {
				p := pair.Pair{Key: names[(i*7+j*3)%len(names)], Value: strconv.Itoa(j)}
				act(t, s.name, e, ms[j], (i+j)%3 == 0, p)
			}
			for j, e := range l {
				has(t, s.name, e, ms[j])
			}
		}
		is(t, s.name, s.Tree, s.m)
		for j, e := range l {
			x, err := e.Freeze()
			if err != api.OK {
				t.Fatalf("%s: got %d", s.name, err)
			}
			is(t, s.name, x, ms[j])
		}
		is(t, s.name, s.Tree, s.m)
	}
}

// P16.1: an edit does not own the nodes of somebody else's token, live or not,
// and never changes them, even if it has the same id.
func TestOthersNodes(t *testing.T) {
	for _, s := range starts() {
		pool := pools(t, 1)
		by, _ := pool.Take()
		x := put(s.Tree, by, "x", "y", "a")
		m := mapOf(append(slices.Collect(maps.Keys(s.m)), "x", "y", "a")...)
		emptied(t, s.name+", live", begin(t, pools(t, 1), x), x, m)
		pool.End(by)
		e := begin(t, pool, x)
		if e.ID() != by.ID() {
			t.Fatalf("%s: got the id %d", s.name, e.ID())
		}
		emptied(t, s.name+", ended", e, x, m)
		is(t, s.name, s.Tree, s.m)
	}
}

// emptied takes everything from an edit of a tree that has this map, and puts
// something else, while the tree stands.
func emptied(t *testing.T, what string, e *edit.Edit, x tree.Tree, m map[string]string) {
	t.Helper()
	now := maps.Clone(m)
	for _, key := range slices.Sorted(maps.Keys(m)) {
		act(t, what, e, now, false, pair.Pair{Key: key, Value: "another"})
		act(t, what, e, now, true, of(key))
		act(t, what, e, now, false, of("new "+key[:len(key)/2]))
	}
	has(t, what, e, now)
	is(t, what, x, m)
}

// P16.2: a snapshot has the present contents, and keeps them while the edit goes
// on with another token.
func TestSnap(t *testing.T) {
	names := append(keys(25), odd...)
	for _, s := range starts() {
		pool := pools(t, 3)
		e, m := begin(t, pool, s.Tree), s.copied()
		var snaps []tree.Tree
		var ms []map[string]string
		for i := range 40 {
			for j := range i % 4 {
				p := pair.Pair{Key: names[(i*i*11+j)%len(names)], Value: strconv.Itoa(i)}
				act(t, s.name, e, m, j%2 == 1, p)
			}
			x, err := e.Snap()
			if err != api.OK || !tree.Like(x, s.Tree) || pool.Out() != 1 {
				t.Fatalf("%s: got %d; %d tokens out", s.name, err, pool.Out())
			}
			goes(t, s.name, e, (i+1)%3+1)
			snaps, ms = append(snaps, x), append(ms, maps.Clone(m))
			for k, x := range snaps {
				is(t, s.name, x, ms[k])
			}
			has(t, s.name, e, m)
		}
		is(t, s.name, s.Tree, s.m)
	}
}

// P16.2: Snap with nothing changed is the tree itself.
func TestSnapUnchanged(t *testing.T) {
	for _, s := range starts() {
		e := begin(t, pools(t, 1), s.Tree)
		for range 3 {
			if x, err := e.Snap(); err != api.OK || !tree.One(x, s.Tree) {
				t.Errorf("%s: got %v, %d", s.name, x, err)
			}
		}
		if x, err := e.Freeze(); err != api.OK || !tree.One(x, s.Tree) {
			t.Errorf("%s: got %v, %d", s.name, x, err)
		}
	}
}

// P16.2: Snap of an edit whose pool has no more ids: its own comes back.
func TestSnapFull(t *testing.T) {
	for _, s := range starts() {
		pool := pools(t, 2)
		e, f := begin(t, pool, s.Tree), begin(t, pool, s.Tree)
		m := s.copied()
		for i := range 5 {
			act(t, s.name, e, m, false, of("new "+strconv.Itoa(i)))
			was := maps.Clone(m)
			x, err := e.Snap()
			if err != api.OK || pool.Out() != 2 {
				t.Fatalf("%s: got %d; %d tokens out", s.name, err, pool.Out())
			}
			goes(t, s.name, e, 1)
			goes(t, s.name, f, 2)
			act(t, s.name, e, m, true, of("new "+strconv.Itoa(i)))
			act(t, s.name, e, m, false, pair.Pair{Key: "a", Value: strconv.Itoa(i)})
			is(t, s.name, x, was)
			has(t, s.name, e, m)
			has(t, s.name, f, s.m)
		}
	}
}

// P16.2: edits of a snapshot, while the edit that it is of goes on.
func TestEditOfSnap(t *testing.T) {
	for _, s := range starts() {
		pool := pools(t, 2)
		e, m := begin(t, pool, s.Tree), s.copied()
		act(t, s.name, e, m, false, of("both"))
		x, _ := e.Snap()
		f, n := begin(t, pool, x), maps.Clone(m)
		was := maps.Clone(m)
		for _, key := range append(keys(22), odd...) {
			act(t, s.name, e, m, false, pair.Pair{Key: key, Value: "e"})
			act(t, s.name, f, n, true, of(key))
			has(t, s.name, e, m)
			has(t, s.name, f, n)
		}
		is(t, s.name, x, was)
		is(t, s.name, s.Tree, s.m)
	}
}

// frozen checks that an edit is frozen with that tree: that nothing can be done
// to it, with arguments that have errors of their own, too, and that what it has
// can be got still.
func frozen(t *testing.T, what string, e *edit.Edit, x tree.Tree, m map[string]string) {
	t.Helper()
	id := e.ID()
	for _, p := range []pair.Pair{{}, of("a"), of("none"), {Key: longer}, {Key: longer, Value: wider}, {Value: wider}} {
		if a, b := e.Put(p), e.Drop(p.Key); a != api.ErrFrozen || b != api.ErrFrozen {
			t.Fatalf("%s: Put and Drop of %.20q: got %d and %d", what, p.Key, a, b)
		}
	}
	for _, call := range []func() (tree.Tree, api.Errno){e.Snap, e.Freeze, e.Freeze, e.Snap} {
		if y, err := call(); err != api.ErrFrozen || y != (tree.Tree{}) {
			t.Fatalf("%s: got %v, %d", what, y, err)
		}
	}
	if y, ok := e.Result(); !ok || !tree.One(x, y) || !e.Frozen() || e.ID() != id {
		t.Fatalf("%s: Result: got %v, %v; frozen: %v; id %d", what, y, ok, e.Frozen(), e.ID())
	}
	has(t, what, e, m)
	is(t, what, x, m)
}

// P16.2: Freeze returns the present contents, and ends the token. From then on
// nothing changes.
func TestFreeze(t *testing.T) {
	for _, s := range starts() {
		for _, changes := range [][]string{nil, {"a"}, append(keys(12), "new", "", long)} {
			pool := pools(t, 2)
			e, m := begin(t, pool, s.Tree), s.copied()
			for i, key := range changes {
				act(t, s.name, e, m, i%4 == 3, pair.Pair{Key: key, Value: "1"})
			}
			goes(t, s.name, e, 1)
			x, err := e.Freeze()
			if err != api.OK || pool.Out() != 0 || e.ID() != 1 || !tree.Like(x, s.Tree) {
				t.Fatalf("%s: got %d; %d tokens out", s.name, err, pool.Out())
			}
			frozen(t, s.name, e, x, m)
			if pool.Out() != 0 {
				t.Fatalf("%s: %d tokens out", s.name, pool.Out())
			}
			is(t, s.name, s.Tree, s.m)
		}
	}
}

// P16.2: ids that are taken again: the edit that has it does not change the tree
// that was frozen, though it begins on that very tree, nor any snapshot.
func TestIDsAgain(t *testing.T) {
	for _, s := range starts() {
		pool := pools(t, 1)
		e, m := begin(t, pool, s.Tree), s.copied()
		act(t, s.name, e, m, false, of("first"))
		snap, _ := e.Snap()
		atSnap := maps.Clone(m)
		act(t, s.name, e, m, false, of("second"))
		x, err := e.Freeze()
		if err != api.OK {
			t.Fatalf("%s: got %d", s.name, err)
		}
		for _, y := range []tree.Tree{x, snap, s.Tree} {
			f := begin(t, pool, y)
			if f.ID() != e.ID() {
				t.Fatalf("%s: got the ids %d and %d", s.name, e.ID(), f.ID())
			}
			was := maps.Collect(pairs(y))
			emptied(t, s.name, f, y, was)
			frozen(t, s.name, e, x, m)
			is(t, s.name, snap, atSnap)
			is(t, s.name, s.Tree, s.m)
			if _, err := f.Freeze(); err != api.OK {
				t.Fatalf("%s: got %d", s.name, err)
			}
		}
	}
}

// pairs yields the keys of a tree with their values.
func pairs(x tree.Tree) func(yield func(string, string) bool) {
	return func(yield func(string, string) bool) {
		for _, p := range x.Pairs() {
			if !yield(p.Key, p.Value) {
				return
			}
		}
	}
}

// P16.2: the ids of a pool go round as layer 4 has it: that of a token which has
// ended comes last.
func TestQueue(t *testing.T) {
	pool := pools(t, 3)
	e, f := begin(t, pool, tree.Tree{}), begin(t, pool, tree.Tree{})
	if _, err := f.Freeze(); err != api.OK || f.ID() != 2 || pool.Out() != 1 {
		t.Errorf("got %d, %d; %d tokens out", err, f.ID(), pool.Out())
	}
	if _, err := e.Snap(); err != api.OK || e.ID() != 3 || pool.Out() != 1 {
		t.Errorf("got %d, %d; %d tokens out", err, e.ID(), pool.Out())
	}
	if _, err := edit.Run(pool, tree.Tree{}, nil, nil); err != api.OK || pool.Out() != 1 {
		t.Errorf("got %d; %d tokens out", err, pool.Out())
	}
	g, h := begin(t, pool, tree.Tree{}), begin(t, pool, tree.Tree{})
	if g.ID() != 1 || h.ID() != 2 || pool.Out() != 3 || pool.Room() != 3 {
		t.Errorf("got %d, %d; %d tokens out", g.ID(), h.ID(), pool.Out())
	}
}

// P16.3: the puts, and then the drops, also of keys that are not there.
func TestRun(t *testing.T) {
	for _, s := range starts() {
		for _, c := range []struct {
			puts  []pair.Pair
			drops []string
		}{
			{nil, nil},
			{[]pair.Pair{}, []string{}},
			{[]pair.Pair{of("x")}, nil},
			{nil, []string{"a"}},
			{nil, []string{"none", "a", "a", "none"}},
			{[]pair.Pair{of("x"), of("a"), {Key: "x", Value: "2"}, {}}, []string{"b", "none"}},
			{[]pair.Pair{of("x"), of("y"), of("z")}, []string{"y", "y", "none", "x"}},
			{[]pair.Pair{{Key: long, Value: wide}, {Key: "a"}}, append(keys(20), odd...)},
			{[]pair.Pair{of("x"), of("x"), of("x")}, nil},
		} {
			pool := pools(t, 1)
			m := s.copied()
			for _, p := range c.puts {
				m[p.Key] = p.Value
			}
			for _, key := range c.drops {
				delete(m, key)
			}
			before := s.Shape()
			for range 2 {
				x, err := edit.Run(pool, s.Tree, c.puts, c.drops)
				if err != api.OK || pool.Out() != 0 || !tree.Like(x, s.Tree) {
					t.Fatalf("%s: got %d; %d tokens out", s.name, err, pool.Out())
				}
				is(t, s.name, x, m)
			}
			if !slices.Equal(s.Shape(), before) {
				t.Fatalf("%s: the tree has changed", s.name)
			}
		}
	}
}

// P16.3: what Run returns is nobody's: the next one, with the same id, does not
// change it.
func TestRunAgain(t *testing.T) {
	for _, s := range starts() {
		pool := pools(t, 1)
		x, m := s.Tree, s.copied()
		for i, key := range append(keys(15), odd...) {
			was := maps.Clone(m)
			p := pair.Pair{Key: key, Value: strconv.Itoa(i)}
			y, err := edit.Run(pool, x, []pair.Pair{p}, []string{"key 3"})
			if err != api.OK {
				t.Fatalf("%s: got %d", s.name, err)
			}
			m[p.Key] = p.Value
			delete(m, "key 3")
			is(t, s.name, x, was)
			is(t, s.name, y, m)
			x = y
		}
	}
}

// P16.3: the first error of a put, or otherwise of a drop: then there is no tree,
// the token has ended, and nothing has changed.
func TestRunRefused(t *testing.T) {
	good := []pair.Pair{of("x"), of("a")}
	badKey, badValue := pair.Pair{Key: longer, Value: wider}, pair.Pair{Key: "v", Value: wider}
	for _, s := range starts() {
		for i, c := range []struct {
			puts  []pair.Pair
			drops []string
			want  api.Errno
		}{
			{[]pair.Pair{badKey}, nil, api.ErrKey},
			{[]pair.Pair{badValue}, nil, api.ErrValue},
			{[]pair.Pair{good[0], badKey, good[1], badValue}, []string{"none"}, api.ErrKey},
			{[]pair.Pair{good[0], badValue, badKey, good[1]}, []string{"a"}, api.ErrValue},
			{[]pair.Pair{good[0], good[1], badValue}, []string{longer}, api.ErrValue},
			{good, []string{longer}, api.ErrKey},
			{good, []string{"none", "a", longer, "x"}, api.ErrKey},
			{nil, []string{"none", "none", longer}, api.ErrKey},
		} {
			pool := pools(t, 2)
			e := begin(t, pool, s.Tree)
			before := s.Shape()
			x, err := edit.Run(pool, s.Tree, c.puts, c.drops)
			if err != c.want || x != (tree.Tree{}) || pool.Out() != 1 {
				t.Fatalf("%s: %d: got %v, %d, want %d; %d tokens out", s.name, i, x, err, c.want, pool.Out())
			}
			if !slices.Equal(s.Shape(), before) {
				t.Fatalf("%s: %d: the tree has changed", s.name, i)
			}
			has(t, s.name, e, s.m)
			if f := begin(t, pool, s.Tree); f.ID() != 2 {
				t.Fatalf("%s: %d: got the id %d", s.name, i, f.ID())
			}
		}
	}
}

// P1: edits of nodes that are no tree at all end.
func TestNoTree(t *testing.T) {
	by, _ := pools(t, 1).Take()
	loop := node.Inner().SetPair(by, 1, of("a"))
	for i := 2; i < 32; i++ {
		loop = loop.SetKid(by, i, loop)
	}
	twice := radix.Make("x", false, "", radix.Make("", true, ""), radix.Make("", false, ""))
	for _, x := range []tree.Tree{tree.OfChamp(hashers()[0], loop), tree.OfChamp(sip.Hasher{}, node.Bucket()), tree.OfRadix(twice)} {
		pool := pools(t, 1)
		e := begin(t, pool, x)
		for _, key := range append(keys(20), odd...) {
			e.Put(of(key))
			e.Drop(key)
			e.Get(key)
		}
		e.Snap()
		e.Freeze()
		edit.Run(pool, x, []pair.Pair{of("a"), of("b")}, []string{"a", "c"})
		if pool.Out() != 0 {
			t.Errorf("%d tokens out", pool.Out())
		}
	}
}

// P2: the same calls of two edits return the same.
func TestSameAgain(t *testing.T) {
	for _, s := range starts() {
		e, f := begin(t, pools(t, 1), s.Tree), begin(t, pools(t, 1), s.Tree)
		for i, key := range append(append(keys(22), odd...), keys(9)...) {
			a, b := e.Put(of(key)), f.Put(of(key))
			if i%2 == 1 {
				a, b = e.Drop(key), f.Drop(key)
			}
			if a != b || e.Len() != f.Len() || !slices.Equal(e.Pairs(), f.Pairs()) {
				t.Fatalf("%s: %.20q: got %d and %d", s.name, key, a, b)
			}
		}
		x, a := e.Freeze()
		y, b := f.Freeze()
		if a != api.OK || b != api.OK || !tree.Same(x, y) {
			t.Fatalf("%s: got %d and %d", s.name, a, b)
		}
	}
}

// Memory: the lists that Run is given stay as they were, and can be overwritten;
// so can the one that Pairs returns, its spare capacity, too.
func TestMemory(t *testing.T) {
	for _, s := range starts() {
		puts := []pair.Pair{of("x"), of("y"), {Key: "x", Value: "2"}, of("behind")}
		drops := []string{"y", "none", "x"}
		x, err := edit.Run(pools(t, 1), s.Tree, puts[:3], drops[:2])
		if err != api.OK || !slices.Equal(puts, []pair.Pair{of("x"), of("y"), {Key: "x", Value: "2"}, of("behind")}) || !slices.Equal(drops, []string{"y", "none", "x"}) {
			t.Fatalf("%s: got %d, %q, %q", s.name, err, puts, drops)
		}
		clear(puts)
		clear(drops)
		m := s.copied()
		m["x"] = "2"
		is(t, s.name, x, m)
		e := begin(t, pools(t, 1), x)
		for range 2 {
			l, k := e.Pairs(), e.Pairs()
			clear(l[:cap(l)])
			if !slices.Equal(k, pairsOf(m)) {
				t.Fatalf("%s: two results share memory", s.name)
			}
			has(t, s.name, e, m)
			e.Freeze()
		}
	}
}
