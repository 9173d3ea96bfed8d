package radix_test

import (
	"bytes"
	"maps"
	"slices"
	"strconv"
	"strings"
	"testing"

	"quickset/api"
	"quickset/pair"
	"quickset/radix"
	"quickset/token"
)

// odd are keys and values of any bytes and any length, also longer than the
// limits of later layers and than two bytes can tell; many begin with another.
var odd = []string{"", "\x00", "\x00\x00", "a", "a\x00", "ab", "abc", "b", "\n", "\x7f", "\x80", "\xc3\xa9", "\xc3", "\xc3\xa8", "\xff", "\xff\xff", "\xff\x00", strings.Repeat("k", api.MaxKey), strings.Repeat("k", api.MaxKey+1), strings.Repeat("k", api.MaxKey) + "l", strings.Repeat("v", api.MaxValue+1), strings.Repeat("\x00", 9000), strings.Repeat("w", 70000)}

// words are all strings of up to four of the bytes a and b.
func words() []string {
	l := []string{""}
	for from := 0; len(l[from]) < 4; from++ {
		l = append(l, l[from]+"a", l[from]+"b")
	}
	return l
}

// sets are all sets of these keys.
func sets(l ...string) []map[string]string {
	if len(l) == 0 {
		return []map[string]string{{}}
	}
	var all []map[string]string
	for _, m := range sets(l[1:]...) {
		with := maps.Clone(m)
		with[l[0]] = of(l[0]).Value
		all = append(all, m, with)
	}
	return all
}

func of(key string) pair.Pair {
	return pair.Pair{Key: key, Value: "<" + key + ">"}
}

// keys are n keys in an order that is not that of their bytes.
func keys(n int) []string {
	var l []string
	for i := range n {
		l = append(l, "key "+strconv.Itoa(i*7919%n))
	}
	return l
}

func pairsOf(m map[string]string) []pair.Pair {
	var l []pair.Pair
	for _, key := range slices.Sorted(maps.Keys(m)) {
		l = append(l, pair.Pair{Key: key, Value: m[key]})
	}
	return l
}

func put(by *token.Token, m map[string]string) *radix.Node {
	root := radix.Empty()
	for _, p := range pairsOf(m) {
		root, _ = radix.Put(by, root, p)
	}
	return root
}

// takes returns a pool of n tokens that are all out.
func takes(t *testing.T, n int) (*token.Pool, []*token.Token) {
	t.Helper()
	p, err := token.New(n)
	if err != api.OK {
		t.Fatal(err)
	}
	var l []*token.Token
	for range n {
		x, err := p.Take()
		if err != api.OK {
			t.Fatal(err)
		}
		l = append(l, x)
	}
	return p, l
}

// branch returns, by the definition of P11.1, the branch of pairs in increasing
// order, which all have a prefix in common, or the root of a tree if that is to
// be empty.
func branch(label string, l []pair.Pair) *radix.Node {
	has, value := false, ""
	var kids []*radix.Node
	for len(l) > 0 {
		rest := l[0].Key[len(label):]
		if rest == "" {
			has, value = true, l[0].Value
			l = l[1:]
			continue
		}
		n := 0
		for n < len(l) && l[n].Key[len(label)] == rest[0] {
			n++
		}
		var below []pair.Pair
		for _, p := range l[:n] {
			below = append(below, pair.Pair{Key: p.Key[len(label):], Value: p.Value})
		}
		kids = append(kids, branch(prefix(below), below))
		l = l[n:]
	}
	return radix.Make(label, has, value, kids...)
}

// prefix returns the longest common prefix of all keys.
func prefix(l []pair.Pair) string {
	s := l[0].Key
	for _, p := range l {
		for !strings.HasPrefix(p.Key, s) {
			s = s[:len(s)-1]
		}
	}
	return s
}

// differs tells where two nodes are not equal, node for node.
func differs(a, b *radix.Node) string {
	if a == nil || b == nil {
		if a != b {
			return "nil"
		}
		return ""
	}
	v, hasA := a.Value()
	w, hasB := b.Value()
	if a.Label() != b.Label() || v != w || hasA != hasB {
		return strconv.Quote(a.Label()) + " has " + strconv.Quote(v) + ", not " + strconv.Quote(b.Label()) + " with " + strconv.Quote(w)
	}
	k, l := a.Kids(), b.Kids()
	if len(k) != len(l) {
		return strconv.Quote(a.Label()) + " has " + strconv.Itoa(len(k)) + " children, not " + strconv.Itoa(len(l))
	}
	for i := range k {
		if s := differs(k[i], l[i]); s != "" {
			return strconv.Quote(a.Label()) + ": " + s
		}
	}
	return ""
}

// text is the definition of layer 7's Text.
func text(s string) string {
	return string([]byte{byte(len(s)), byte(len(s) >> 8)}) + s
}

// shaped is the definition of Shape.
func shaped(n *radix.Node) string {
	if n == nil {
		return ""
	}
	s := text(n.Label())
	if v, has := n.Value(); has {
		s += "\x01" + text(v)
	} else {
		s += "\x00"
	}
	kids := n.Kids()
	s += string([]byte{byte(len(kids)), byte(len(kids) >> 8)})
	for _, k := range kids {
		s += shaped(k)
	}
	return s
}

// check holds a tree against the map that it is to have: its form, its number of
// pairs, and its values.
func check(t *testing.T, what string, root *radix.Node, m map[string]string) {
	t.Helper()
	if s := differs(root, branch("", pairsOf(m))); s != "" {
		t.Fatalf("%s: %.200s", what, s)
	}
	if !radix.Canon(root) {
		t.Fatalf("%s: not canonical", what)
	}
	if got := radix.Len(root); got != len(m) {
		t.Fatalf("%s: Len: got %d, want %d", what, got, len(m))
	}
	for key, want := range m {
		if got, ok := radix.Get(root, key); got != want || !ok {
			t.Fatalf("%s: Get of %.20q: got %.20q, %v", what, key, got, ok)
		}
		for _, none := range []string{key + "\x00", "\x00" + key, key + key, key[:len(key)/2], key[len(key)/2:]} {
			if got, ok := radix.Get(root, none); got != m[none] || ok != has(m, none) {
				t.Fatalf("%s: Get of %.20q: got %.20q, %v", what, none, got, ok)
			}
		}
	}
}

func has(m map[string]string, key string) bool {
	_, ok := m[key]
	return ok
}

// held is what a node has, without what its children have.
type held struct {
	label, value string
	has          bool
	kids         []*radix.Node
}

func (a held) is(b held) bool {
	return a.label == b.label && a.value == b.value && a.has == b.has && slices.Equal(a.kids, b.kids)
}

func holds(n *radix.Node) held {
	value, has := n.Value()
	return held{n.Label(), value, has, n.Kids()}
}

// below returns the nodes of a tree, with what each has.
func below(roots ...*radix.Node) map[*radix.Node]held {
	m := map[*radix.Node]held{}
	for len(roots) > 0 {
		n := roots[len(roots)-1]
		roots = roots[:len(roots)-1]
		if _, again := m[n]; again || n == nil {
			continue
		}
		m[n] = holds(n)
		roots = append(roots, m[n].kids...)
	}
	return m
}

// fresh returns how many nodes of the result were not in the tree before.
func fresh(before map[*radix.Node]held, result *radix.Node) int {
	count := 0
	for n := range below(result) {
		if _, old := before[n]; !old {
			count++
		}
	}
	return count
}

// guard is what P11.2 has to say of the nodes of one call: made ahead of it,
// asked after it.
type guard struct {
	by     *token.Token
	root   *radix.Node
	m      map[string]string
	nodes  map[*radix.Node]held
	owned  map[*radix.Node]int // 1 if it is the token's
	others []*token.Token
}

func guarded(by *token.Token, root *radix.Node, m map[string]string, others ...*token.Token) guard {
	g := guard{by, root, maps.Clone(m), below(root), map[*radix.Node]int{}, others}
	for n := range g.nodes {
		if n.Owned(by) {
			g.owned[n] = 1
		}
	}
	return g
}

// same checks that nothing at all was changed or made.
func (g guard) same(t *testing.T, what string, result *radix.Node) {
	t.Helper()
	if g.root != nil && result != g.root {
		t.Fatalf("%s: not root itself", what)
	}
	for n, before := range g.nodes {
		if !holds(n).is(before) || n.Owned(g.by) != (g.owned[n] == 1) {
			t.Fatalf("%s: a node has changed", what)
		}
	}
}

// changed checks that only what the token owns was changed, that everything new
// is the token's, and that there is not too much of it.
func (g guard) changed(t *testing.T, what string, result *radix.Node, key string) {
	t.Helper()
	for n, before := range g.nodes {
		if g.owned[n] == 0 && !holds(n).is(before) {
			t.Fatalf("%s: a node that is not owned has changed", what)
		}
		if n.Owned(g.by) != (g.owned[n] == 1) {
			t.Fatalf("%s: an old node has another owner", what)
		}
	}
	if got := fresh(g.nodes, result); got > len(key)+2 {
		t.Fatalf("%s: %d new nodes for %q", what, got, key)
	}
	for n := range below(result) {
		if _, old := g.nodes[n]; old {
			continue
		}
		if n.Owned(g.by) != g.by.Live() || n.Owned(nil) {
			t.Fatalf("%s: a new node is not the token's", what)
		}
		for _, x := range g.others {
			if x != g.by && n.Owned(x) {
				t.Fatalf("%s: a new node is another token's", what)
			}
		}
	}
	if g.root != nil && g.owned[g.root] == 0 {
		check(t, what+", the old tree", g.root, g.m)
	}
}

// change puts p, or drops its key if drop is set, and checks the result by the
// map, and by what nodes may have changed.
func change(t *testing.T, what string, by *token.Token, root *radix.Node, m map[string]string, p pair.Pair, drop bool, others ...*token.Token) (*radix.Node, map[string]string) {
	t.Helper()
	g := guarded(by, root, m, others...)
	want, nothing := maps.Clone(m), false
	var got *radix.Node
	var ok, wantOK bool
	if drop {
		what += ", Drop of " + strconv.Quote(p.Key)
		got, ok = radix.Drop(by, root, p.Key)
		wantOK, nothing = has(m, p.Key), !has(m, p.Key)
		delete(want, p.Key)
	} else {
		what += ", Put of " + strconv.Quote(p.Key)
		got, ok = radix.Put(by, root, p)
		wantOK, nothing = !has(m, p.Key), has(m, p.Key) && m[p.Key] == p.Value
		want[p.Key] = p.Value
	}
	if ok != wantOK {
		t.Fatalf("%.200s: got %v", what, ok)
	}
	check(t, what, got, want)
	if nothing {
		g.same(t, what, got)
	}
	g.changed(t, what, got, p.Key)
	return got, want
}

// The example of the document.
func TestExample(t *testing.T) {
	root, m := radix.Empty(), map[string]string{}
	root, m = change(t, "", nil, root, m, of("ab"), false)
	root, m = change(t, "", nil, root, m, of("ac"), false)
	kids := root.Kids()
	if len(kids) != 1 || kids[0].Label() != "a" || root.Label() != "" {
		t.Fatalf("got %d children", len(kids))
	}
	if v, ok := kids[0].Value(); v != "" || ok {
		t.Errorf("a has the value %q, %v", v, ok)
	}
	l := kids[0].Kids()
	if len(l) != 2 || l[0].Label() != "b" || l[1].Label() != "c" || len(l[0].Kids()) != 0 {
		t.Errorf("a has %d children", len(l))
	}
	if v, ok := l[1].Value(); v != m["ac"] || !ok {
		t.Errorf("got %q, %v", v, ok)
	}
}

// P11.2: the tree without pairs has the empty label, no value and no children,
// and nobody owns it.
func TestEmpty(t *testing.T) {
	_, by := takes(t, 1)
	a, b := radix.Empty(), radix.Empty()
	check(t, "empty", a, nil)
	if v, ok := a.Value(); a.Label() != "" || v != "" || ok || len(a.Kids()) != 0 || a.Owned(by[0]) || a.Owned(nil) {
		t.Error("it has something")
	}
	radix.Put(by[0], a, of("a"))
	check(t, "itself", a, nil)
	check(t, "the other", b, nil)
}

// P11.1 and P11.2: a nil root counts as the tree without pairs.
func TestNilRoot(t *testing.T) {
	pool, by := takes(t, 2)
	pool.End(by[1])
	if radix.Len(nil) != 0 {
		t.Error("it has pairs")
	}
	for _, key := range odd {
		if v, ok := radix.Get(nil, key); v != "" || ok {
			t.Errorf("Get: got %q, %v", v, ok)
		}
		for _, with := range []*token.Token{nil, by[0], by[1]} {
			change(t, "nil", with, nil, nil, pair.Pair{Key: key}, true, by...)
			root, m := change(t, "nil", with, nil, map[string]string{}, of(key), false, by...)
			root, m = change(t, "one", with, root, m, of(key), true, by...)
			change(t, "none", with, root, m, of(key), false, by...)
		}
	}
}

// P11.2: Make's node has what it is given, without nil children, whatever the
// children are; and nobody owns it.
func TestMake(t *testing.T) {
	_, by := takes(t, 1)
	owned, _ := radix.Put(by[0], nil, of("a"))
	a, b := radix.Make("a", true, ""), radix.Make("", false, "")
	for _, label := range odd {
		for _, value := range []string{"", "v", label} {
			for _, c := range []struct{ given, want []*radix.Node }{
				{nil, nil},
				{[]*radix.Node{}, nil},
				{[]*radix.Node{nil}, nil},
				{[]*radix.Node{nil, nil, nil}, nil},
				{[]*radix.Node{a}, []*radix.Node{a}},
				{[]*radix.Node{b, a}, []*radix.Node{b, a}},
				{[]*radix.Node{nil, b, nil, nil, a, nil}, []*radix.Node{b, a}},
				{[]*radix.Node{a, owned, a, a}, []*radix.Node{a, owned, a, a}},
			} {
				with, without := radix.Make(label, true, value, c.given...), radix.Make(label, false, value, c.given...)
				if !holds(with).is(held{label, value, true, c.want}) {
					t.Errorf("%.20q with %.20q: got %.99v", label, value, holds(with))
				}
				if !holds(without).is(held{label, "", false, c.want}) {
					t.Errorf("%.20q without %.20q: got %.99v", label, value, holds(without))
				}
				if with.Owned(by[0]) || with.Owned(nil) || with == without {
					t.Error("somebody owns it")
				}
			}
		}
	}
	if !holds(radix.Make("x", false, "", a, b)).is(held{"x", "", false, []*radix.Node{a, b}}) || !owned.Owned(by[0]) {
		t.Error("children one by one")
	}
}

// Memory: the list of children stays the caller's, and Kids' results are the
// caller's, too.
func TestListsOfKids(t *testing.T) {
	a, b := radix.Make("a", true, ""), radix.Make("b", true, "")
	given := []*radix.Node{a, nil, b, a}
	n := radix.Make("", false, "", given[:3]...)
	if !slices.Equal(given, []*radix.Node{a, nil, b, a}) {
		t.Error("the list was changed")
	}
	clear(given)
	kids := n.Kids()
	clear(n.Kids())
	kids = append(kids, a)
	clear(kids[:cap(kids)])
	if !slices.Equal(n.Kids(), []*radix.Node{a, b}) {
		t.Errorf("got %v", n.Kids())
	}
	_, by := takes(t, 1)
	root := put(by[0], map[string]string{"a": "", "b": "", "ca": "", "cb": ""})
	kids = root.Kids()
	before := slices.Clone(kids)
	for _, key := range []string{"a", "d", "0", "ca", "cb"} {
		root, _ = radix.Put(by[0], root, of(key))
		root, _ = radix.Drop(by[0], root, key)
		if !slices.Equal(kids, before) {
			t.Fatalf("%s: an earlier list has changed", key)
		}
	}
}

// P1: no node.
func TestNilNode(t *testing.T) {
	_, by := takes(t, 1)
	var n *radix.Node
	if v, ok := n.Value(); n.Label() != "" || v != "" || ok || len(n.Kids()) != 0 || n.Owned(nil) || n.Owned(by[0]) {
		t.Error("no node has something")
	}
	if len(radix.Shape(nil)) != 0 || radix.Canon(nil) || !radix.Same(nil, nil) || radix.Same(nil, radix.Empty()) || radix.Same(radix.Empty(), nil) {
		t.Error("no node looks like something")
	}
}

// P11.1 and P11.2: every change of every set of some keys, of which one begins
// with another, and one is empty: branches are split, joined again and left out.
func TestEverySet(t *testing.T) {
	_, by := takes(t, 1)
	all := []string{"", "a", "abc", "abcd", "abce", "abd", "b", "ba"}
	more := []string{"ab", "ac", "abcde", "aa", "c", "\x00", "\xff"}
	for _, with := range []*token.Token{nil, by[0]} {
		for _, m := range sets(all...) {
			for _, key := range slices.Concat(all, more) {
				for _, value := range []string{"", "new", "<" + key + ">"} {
					change(t, "a set", with, put(with, m), m, pair.Pair{Key: key, Value: value}, false, by...)
				}
				change(t, "a set", with, put(with, m), m, of(key), true, by...)
			}
		}
	}
}

// P11.1: what a split and a join do, written out.
func TestSplitAndJoin(t *testing.T) {
	leaf := func(label, key string, kids ...*radix.Node) *radix.Node {
		return radix.Make(label, true, of(key).Value, kids...)
	}
	bare := func(label string, kids ...*radix.Node) *radix.Node { return radix.Make(label, false, "", kids...) }
	root := radix.Empty()
	for _, step := range []struct {
		key  string
		drop bool
		want *radix.Node
	}{
		{"romane", false, bare("", leaf("romane", "romane"))},
		{"romanus", false, bare("", bare("roman", leaf("e", "romane"), leaf("us", "romanus")))},
		{"rom", false, bare("", leaf("rom", "rom", bare("an", leaf("e", "romane"), leaf("us", "romanus"))))},
		{"", false, leaf("", "", leaf("rom", "rom", bare("an", leaf("e", "romane"), leaf("us", "romanus"))))},
		{"rope", false, leaf("", "", bare("ro", leaf("m", "rom", bare("an", leaf("e", "romane"), leaf("us", "romanus"))), leaf("pe", "rope")))},
		{"rom", true, leaf("", "", bare("ro", bare("man", leaf("e", "romane"), leaf("us", "romanus")), leaf("pe", "rope")))},
		{"rope", true, leaf("", "", bare("roman", leaf("e", "romane"), leaf("us", "romanus")))},
		{"", true, bare("", bare("roman", leaf("e", "romane"), leaf("us", "romanus")))},
		{"romane", true, bare("", leaf("romanus", "romanus"))},
		{"ro", true, bare("", leaf("romanus", "romanus"))},
		{"romanus", true, bare("")},
	} {
		if step.drop {
			root, _ = radix.Drop(nil, root, step.key)
		} else {
			root, _ = radix.Put(nil, root, of(step.key))
		}
		if s := differs(root, step.want); s != "" {
			t.Fatalf("%s, drop %v: %s", step.key, step.drop, s)
		}
	}
}

// P11.1: children are in increasing order of their bytes, as numbers, for all
// bytes, in whichever order they come.
func TestEveryByte(t *testing.T) {
	for _, front := range []string{"", "a", "\xff\x00"} {
		root, m := radix.Empty(), map[string]string{}
		for i := range 256 {
			b := byte(i * 37)
			root, m = change(t, "bytes", nil, root, m, of(front+string([]byte{b})), false)
		}
		for i := range 256 {
			b := byte(i*91 + 5)
			root, m = change(t, "bytes", nil, root, m, of(front+string([]byte{b})), true)
		}
	}
}

// P11.1 and P11.2: keys and values of any bytes and any length.
func TestOddTexts(t *testing.T) {
	_, by := takes(t, 1)
	for _, with := range []*token.Token{nil, by[0]} {
		root, m := radix.Empty(), map[string]string{}
		for round := range 3 {
			for i, key := range odd {
				root, m = change(t, "odd", with, root, m, pair.Pair{Key: key, Value: odd[(i+round*5)%len(odd)]}, false)
			}
		}
		for i := range odd {
			root, m = change(t, "odd", with, root, m, of(odd[i*7%len(odd)]), true)
		}
	}
}

// P11.1: the same map by different orders of Put and Drop, with values that were
// others before and keys that were there in between, has the same tree.
func TestOrders(t *testing.T) {
	_, by := takes(t, 1)
	all := words()
	m := map[string]string{}
	for i, key := range all {
		if i%3 != 0 {
			m[key] = of(key).Value
		}
	}
	want := radix.Shape(put(nil, m))
	for _, with := range []*token.Token{nil, by[0]} {
		for stride := 1; stride < 31; stride++ {
			root := radix.Empty()
			for i := range all {
				root, _ = radix.Put(with, root, pair.Pair{Key: all[i*stride%31], Value: "before"})
			}
			for i := range all {
				key := all[(i*stride+13)%31]
				if value, ok := m[key]; ok {
					root, _ = radix.Put(with, root, pair.Pair{Key: key, Value: value})
				} else {
					root, _ = radix.Drop(with, root, key)
				}
			}
			check(t, "an order", root, m)
			if !bytes.Equal(radix.Shape(root), want) || !radix.Same(root, put(nil, m)) {
				t.Errorf("stride %d: another shape", stride)
			}
		}
	}
}

// P11.2: Put of a key with its very value, and Drop of a key that is not there,
// return root itself and change nothing, whoever owns the nodes.
func TestNothingToDo(t *testing.T) {
	pool, by := takes(t, 3)
	for _, maker := range []*token.Token{nil, by[0], by[1]} {
		m := map[string]string{}
		for i, key := range words() {
			if i%2 == 1 {
				m[key] = of(key).Value
			}
		}
		root := put(maker, m)
		for _, with := range []*token.Token{nil, by[0], by[2]} {
			g := guarded(with, root, m)
			for _, key := range slices.Concat(words(), odd) {
				if has(m, key) {
					got, ok := radix.Put(with, root, of(key))
					if ok {
						t.Fatalf("Put of %q: true", key)
					}
					g.same(t, "Put", got)
				} else {
					got, ok := radix.Drop(with, root, key)
					if ok {
						t.Fatalf("Drop of %.20q: true", key)
					}
					g.same(t, "Drop", got)
				}
			}
		}
	}
	pool.End(by[0])
	none := radix.Empty()
	for _, with := range append(by, nil) {
		if got, ok := radix.Drop(with, none, ""); got != none || ok {
			t.Errorf("got root itself: %v, %v", got == none, ok)
		}
	}
}

// P11.2: an empty value is a value, also that of the empty key.
func TestEmptyValue(t *testing.T) {
	for _, key := range []string{"", "a"} {
		root, m := change(t, "one", nil, nil, map[string]string{}, pair.Pair{Key: key, Value: "1"}, false)
		next, n := change(t, "empty", nil, root, m, pair.Pair{Key: key}, false)
		if next == root {
			t.Error("root itself")
		}
		check(t, "before", root, m)
		again, _ := change(t, "again", nil, next, n, pair.Pair{Key: key}, false)
		if again != next {
			t.Error("not root itself")
		}
		change(t, "none", nil, next, n, pair.Pair{Key: key}, true)
	}
}

// P11.2: every way of changing a tree that is made by the token, by another, by
// an ended one, by one whose id was taken again, and by none, with live, ended
// and nil tokens.
func TestOwners(t *testing.T) {
	for _, made := range []string{"by the token", "by another", "by an ended", "by one with its id", "by none"} {
		for _, with := range []string{"live", "ended", "nil"} {
			for which := range words() {
				ownersCase(t, "made "+made+", with "+with, made, with, which)
			}
		}
	}
}

// ownersCase makes a tree of two thirds of the words in one of the ways of
// TestOwners, and then puts, replaces or drops one word.
func ownersCase(t *testing.T, what, made, with string, which int) {
	t.Helper()
	for _, drop := range []bool{false, true} {
		pool, by := takes(t, 2)
		maker := by[0]
		switch made {
		case "by another", "by an ended":
			maker = by[1]
		case "by none":
			maker = nil
		}
		m := map[string]string{}
		for i, key := range words() {
			if i%3 != 1 {
				m[key] = of(key).Value
			}
		}
		root := put(maker, m)
		own := by[0]
		switch made {
		case "by an ended":
			pool.End(by[1])
		case "by one with its id":
			pool.End(own)
			own, _ = pool.Take()
		}
		switch with {
		case "ended":
			pool.End(own)
		case "nil":
			own = nil
		}
		g := guarded(own, root, m, by...)
		change(t, what, own, root, m, pair.Pair{Key: words()[which], Value: "new"}, drop, by...)
		if with != "live" || made != "by the token" {
			g.same(t, what, root)
		}
	}
}

// P11.2: with the token that made it, a tree is changed in place: nothing is
// copied that the token owns from the root on, and new nodes are only those that
// the form asks for.
func TestInPlace(t *testing.T) {
	_, by := takes(t, 1)
	root, _ := radix.Put(by[0], nil, of("first"))
	start := root
	l := words()
	for i := range l {
		before := below(root)
		root, _ = radix.Put(by[0], root, of(l[i*7%31]))
		if got := fresh(before, root); root != start || got > 2 {
			t.Errorf("Put of %q: %d new nodes", l[i*7%31], got)
		}
	}
	nodes := below(root)
	for _, key := range l {
		root, _ = radix.Put(by[0], root, pair.Pair{Key: key, Value: "new"})
	}
	if root != start || fresh(nodes, root) != 0 {
		t.Errorf("%d new nodes for other values", fresh(nodes, root))
	}
	for i := range l {
		root, _ = radix.Drop(by[0], root, l[i*9%31])
	}
	if root != start || fresh(nodes, root) != 0 {
		t.Errorf("%d new nodes after Drop", fresh(nodes, root))
	}
	check(t, "the first", root, map[string]string{"first": "<first>"})
}

// P11.2: what is below a tree's changed nodes is the token's as before, also
// after a join, so that it is changed in place again.
func TestInPlaceAfterJoin(t *testing.T) {
	_, by := takes(t, 1)
	m := map[string]string{}
	for _, key := range []string{"a", "abcd", "abce", "abcdx", "abcdy"} {
		m[key] = of(key).Value
	}
	root := put(by[0], m)
	root, m = change(t, "join", by[0], root, m, of("a"), true)
	nodes := below(root)
	root, m = change(t, "below", by[0], root, m, pair.Pair{Key: "abcdx", Value: "new"}, false)
	root, _ = change(t, "below", by[0], root, m, pair.Pair{Key: "abce", Value: "new"}, false)
	if got := fresh(nodes, root); got != 0 {
		t.Errorf("%d new nodes", got)
	}
}

// P11.2: when the token ends, its nodes are nobody's: what was an edit's is never
// changed again, also not with the token that has its id next.
func TestEndedToken(t *testing.T) {
	pool, by := takes(t, 1)
	m := map[string]string{}
	for _, key := range words()[:20] {
		m[key] = of(key).Value
	}
	root := put(by[0], m)
	pool.End(by[0])
	again, _ := pool.Take()
	if again.ID() != by[0].ID() {
		t.Fatal("another id")
	}
	for _, with := range []*token.Token{by[0], again} {
		edit := root
		for _, key := range words() {
			edit, _ = radix.Put(with, edit, pair.Pair{Key: key, Value: "new"})
			edit, _ = radix.Drop(with, edit, "ab")
		}
		check(t, "as it was", root, m)
	}
}

// P11.2: as many nodes are new as the key has bytes, plus 2, if it has a node for
// every byte and splits the last; and all changes stay within that.
func TestMostNew(t *testing.T) {
	_, by := takes(t, 1)
	for _, with := range []*token.Token{nil, by[0]} {
		for n := range 20 {
			m := map[string]string{}
			for i := range n + 1 {
				m[strings.Repeat("a", i)] = "1"
			}
			m[strings.Repeat("a", n)+"bc"] = "2"
			root, key := put(nil, m), strings.Repeat("a", n)+"bd"
			got, _ := change(t, "a split", with, root, m, of(key), false)
			if count := fresh(below(root), got); count != len(key)+2 {
				t.Errorf("%d bytes: got %d", len(key), count)
			}
			got, _ = change(t, "an end", with, root, m, of(strings.Repeat("a", n)+"b"), false)
			if count := fresh(below(root), got); count != n+1+2 {
				t.Errorf("%d bytes: got %d", n+1, count)
			}
			change(t, "a drop", with, root, m, of(strings.Repeat("a", n)+"bc"), true)
			change(t, "a value", with, root, m, pair.Pair{Key: strings.Repeat("a", n/2), Value: "new"}, false)
		}
	}
}

// P11.2: a root that is not the token's keeps its map, though the token owns
// nodes below it.
func TestOwnedBelowOthers(t *testing.T) {
	_, by := takes(t, 2)
	m := map[string]string{}
	for _, key := range words()[:20] {
		m[key] = of(key).Value
	}
	root := put(by[0], m)
	for _, with := range []*token.Token{nil, by[1]} {
		other, more := change(t, "more", with, root, m, of("more"), false)
		for _, key := range words() {
			for _, drop := range []bool{false, true} {
				g := guarded(by[0], other, more, by...)
				change(t, "another's", by[0], other, more, pair.Pair{Key: key, Value: "new"}, drop, by...)
				g.same(t, "another's", other)
			}
		}
		check(t, "the first", root, m)
	}
}

// P11.2: a node that the result has no more is as it was, for others that have
// it still.
func TestLeftNodesStay(t *testing.T) {
	_, by := takes(t, 1)
	m := map[string]string{}
	for _, key := range words() {
		m[key] = of(key).Value
	}
	root := put(by[0], m)
	for i := range words() {
		before := below(root)
		root, _ = radix.Drop(by[0], root, words()[i*12%31])
		after := below(root)
		for n, had := range before {
			if _, still := after[n]; !still && !holds(n).is(had) {
				t.Fatalf("%q: a node that was left behind has changed", words()[i*12%31])
			}
		}
	}
}

// step returns numbers of a fixed sequence.
func step(from uint32) func(n int) int {
	return func(n int) int {
		from = from*1664525 + 1013904223
		return int(from>>8) % n
	}
}

// P11.1 and P11.2: over a long sequence of changes, by tokens that end and are
// taken again and by none, every result is the tree of its map.
func TestLikeMaps(t *testing.T) {
	for _, l := range [][]string{words(), {"", "a", "b", "aaaa", "aaab", "aaabb"}, keys(40)} {
		pool, by := takes(t, 3)
		root, m := radix.Empty(), map[string]string{}
		next := step(1)
		for range 4000 {
			var with *token.Token
			if who := next(4); who < 3 {
				with = by[who]
			}
			if next(40) == 0 {
				who := next(3)
				pool.End(by[who])
				by[who], _ = pool.Take()
			}
			p := pair.Pair{Key: l[next(len(l))], Value: strconv.Itoa(next(3))}
			root, m = change(t, "a sequence", with, root, m, p, next(2) == 0, by...)
		}
	}
}

// P11.1 and P11.2: without a token every earlier tree stays as it was.
func TestVersions(t *testing.T) {
	roots, ms := []*radix.Node{radix.Empty()}, []map[string]string{{}}
	next := step(9)
	for i := range 300 {
		root, m := change(t, "a version", nil, roots[i], ms[i], pair.Pair{Key: words()[next(31)], Value: strconv.Itoa(i)}, next(3) == 0)
		roots, ms = append(roots, root), append(ms, m)
	}
	for i := range roots {
		check(t, "version "+strconv.Itoa(i), roots[i], ms[i])
	}
}

// P11.1: a tree of many pairs, and a deep one.
func TestMany(t *testing.T) {
	_, by := takes(t, 1)
	for _, l := range [][]string{keys(20000), deep(1500)} {
		root, m := radix.Empty(), map[string]string{}
		for i := range l {
			key := l[i*7%len(l)]
			root, _ = radix.Put(by[0], root, of(key))
			m[key] = of(key).Value
		}
		check(t, "many", root, m)
		for _, key := range l[len(l)/100:] {
			root, _ = radix.Drop(by[0], root, key)
			delete(m, key)
		}
		check(t, "few", root, m)
	}
}

// deep returns n keys of which each begins with the one before.
func deep(n int) []string {
	var l []string
	for i := range n {
		l = append(l, strings.Repeat("ab", i+1)[:i+1])
	}
	return l
}

// contents returns the map of a node, by its definition; nothing if a key is
// there twice.
func contents(n *radix.Node) map[string]string {
	m := map[string]string{}
	if v, has := n.Value(); has {
		m[""] = v
	}
	for _, k := range n.Kids() {
		for key, value := range contents(k) {
			m[k.Label()+key] = value
		}
	}
	return m
}

// P11.2: trees in which one node is at several places have the pairs of each
// place, and are changed at one place only, though the token owns the node.
func TestOneNodeTwice(t *testing.T) {
	_, by := takes(t, 1)
	for _, maker := range []*token.Token{nil, by[0]} {
		kids := put(maker, map[string]string{"b": "1", "cd": "2", "ce": "3", "cf": "4"}).Kids()
		for _, root := range []*radix.Node{
			radix.Make("", false, "", radix.Make("a", false, "", kids...), radix.Make("b", false, "", kids...)),
			radix.Make("", true, "v", radix.Make("a", true, "", kids[1]), radix.Make("b", true, "", kids[1])),
			radix.Make("", false, "", radix.Make("a", true, "", radix.Make("x", true, "", kids...)), radix.Make("b", true, "", radix.Make("y", true, "", kids...))),
		} {
			m := contents(root)
			check(t, "made", root, m)
			for _, key := range slices.Sorted(maps.Keys(m)) {
				for _, with := range []*token.Token{nil, by[0]} {
					next, n := change(t, "first", with, root, m, pair.Pair{Key: key, Value: "new"}, false)
					for _, second := range slices.Sorted(maps.Keys(m)) {
						other, o := change(t, "second", with, next, n, pair.Pair{Key: second, Value: "newer"}, false)
						other, o = change(t, "third", with, other, o, of(key+"x"), false)
						other, o = change(t, "fourth", with, other, o, of(second[:len(second)/2]), false)
						other, o = change(t, "fifth", with, other, o, of(second), true)
						next, n = other, o
					}
				}
			}
		}
	}
}

// P11.2: the same over long sequences of changes to trees that are made of one
// another's nodes. A tree may have changed with one of the others that share
// nodes of a token's own; it is asked only while it is a tree.
func TestGrafts(t *testing.T) {
	for seed := range 20 {
		_, by := takes(t, 2)
		next := step(uint32(seed))
		roots := []*radix.Node{radix.Empty()}
		for range 500 {
			root := roots[next(len(roots))]
			m := contents(root)
			if differs(root, branch("", pairsOf(m))) != "" || len(m) > 60 {
				roots[slices.Index(roots, root)] = radix.Empty()
				continue
			}
			if next(6) == 0 {
				root = grafted(root, roots[next(len(roots))])
			} else {
				var with *token.Token
				if who := next(5); who < 4 {
					with = by[who%2]
				}
				var key string
				if l := slices.Sorted(maps.Keys(m)); len(l) > 0 && next(2) == 0 {
					key = l[next(len(l))]
				} else {
					key = words()[next(31)]
				}
				root, _ = change(t, "grafts", with, root, m, pair.Pair{Key: key, Value: strconv.Itoa(next(3))}, next(2) == 0, by...)
			}
			if len(roots) < 6 {
				roots = append(roots, root)
			} else {
				roots[next(6)] = root
			}
		}
	}
}

// grafted returns a node with the children of one tree at two places, and those
// of another between them.
func grafted(a, b *radix.Node) *radix.Node {
	return radix.Make("", false, "", radix.Make("a", true, "1", a.Kids()...), radix.Make("b", true, "2", b.Kids()...), radix.Make("c", true, "3", a.Kids()...))
}

// P11.3: all bytes of some nodes, written out.
func TestShapeBytes(t *testing.T) {
	for _, c := range []struct {
		n    *radix.Node
		want string
	}{
		{nil, ""},
		{radix.Empty(), "\x00\x00\x00\x00\x00"},
		{radix.Make("", true, ""), "\x00\x00\x01\x00\x00\x00\x00"},
		{radix.Make("", false, "v"), "\x00\x00\x00\x00\x00"},
		{radix.Make("ab", true, "xyz"), "\x02\x00ab\x01\x03\x00xyz\x00\x00"},
		{radix.Make("", false, "", radix.Make("b", true, "1"), radix.Make("a", false, "", radix.Make("", true, "\xff"))), "\x00\x00\x00\x02\x00\x01\x00b\x01\x01\x001\x00\x00\x01\x00a\x00\x01\x00\x00\x00\x01\x01\x00\xff\x00\x00"},
	} {
		if got := string(radix.Shape(c.n)); got != c.want || shaped(c.n) != c.want {
			t.Errorf("got %x, want %x", got, c.want)
		}
	}
}

// several are nodes that all have different shapes; most are no trees.
func several() []*radix.Node {
	l := []*radix.Node{
		nil,
		radix.Empty(),
		radix.Make("", true, ""),
		radix.Make("", true, "1"),
		radix.Make("a", false, ""),
		radix.Make("a", true, ""),
		radix.Make("a", true, "1"),
		radix.Make("a", true, "2"),
		radix.Make("b", true, "1"),
		radix.Make("ab", true, "1"),
		radix.Make("a", true, "b1"),
	}
	for i, k := range l[1:] {
		l = append(l, radix.Make("", false, "", k), radix.Make("a", true, "1", k), radix.Make("", false, "", k, l[9]), radix.Make("", false, "", l[10], k))
		if i > 0 {
			l = append(l, radix.Make("", true, "", k, radix.Empty(), k))
		}
	}
	return l
}

// P11.3: any nodes, any texts, and more children than a byte or two bytes can
// tell, which are modulo 2^16.
func TestShape(t *testing.T) {
	for _, n := range several() {
		if got := string(radix.Shape(n)); got != shaped(n) {
			t.Errorf("got %x, want %x", got, shaped(n))
		}
	}
	for i, label := range odd {
		n := radix.Make(label, true, odd[len(odd)-1-i], radix.Make(odd[(i+9)%len(odd)], i%2 == 0, label))
		if got := string(radix.Shape(n)); got != shaped(n) {
			t.Errorf("%.20q: got %.99x", label, got)
		}
	}
	for _, length := range []int{65535, 65536, 65537, 131072 + 5} {
		s := strings.Repeat("s", length)
		want := "\x00\x00\x00\x01\x00" + text(s) + "\x01" + text(s) + "\x00\x00"
		if got := string(radix.Shape(radix.Make("", false, "", radix.Make(s, true, s)))); got != want {
			t.Errorf("%d bytes: got %.20x", length, got)
		}
	}
	for _, count := range []int{255, 256, 257, 65535, 65536, 65539} {
		kids := slices.Repeat([]*radix.Node{radix.Make("a", false, "")}, count)
		want := "\x00\x00\x00" + string([]byte{byte(count), byte(count >> 8)}) + strings.Repeat("\x01\x00a\x00\x00\x00", count)
		if got := string(radix.Shape(radix.Make("", false, "", kids...))); got != want {
			t.Errorf("%d children: got %.20x", count, got)
		}
	}
}

// P11.3: the same Shape, also of other nodes with equal contents, and if Shape
// cannot tell them apart; ownership does not matter.
func TestSame(t *testing.T) {
	a, b := several(), several()
	for i := range a {
		for j := range b {
			same := shaped(a[i]) == shaped(b[j])
			if radix.Same(a[i], b[j]) != same || radix.Same(a[i], a[j]) != same {
				t.Errorf("%d and %d: not %v", i, j, same)
			}
		}
	}
	long := strings.Repeat("x", 65533) // with three more bytes, its length looks like that of the empty text
	one, two := radix.Make("\x01\xfe\xff"+long, false, ""), radix.Make("", true, long+"\x00")
	if !radix.Same(one, two) || radix.Same(one, radix.Make("", true, long+"\x01")) {
		t.Error("lengths modulo 2^16")
	}
	pool, by := takes(t, 3)
	m := map[string]string{"": "", "a": "1", "abc": "2", "abd": "3"}
	roots := []*radix.Node{branch("", pairsOf(m))}
	for _, maker := range append(by, nil) {
		roots = append(roots, put(maker, m))
	}
	pool.End(by[2])
	for _, x := range roots {
		for _, y := range roots {
			if !radix.Same(x, y) || !bytes.Equal(radix.Shape(x), radix.Shape(y)) || !radix.Canon(x) {
				t.Error("trees of several owners")
			}
		}
	}
}

// P6 and P11.3: trees are the Same exactly if their maps are equal.
func TestSameMaps(t *testing.T) {
	all := sets("", "a", "ab", "abc", "b")
	for i, m := range all {
		for j, n := range all {
			if got := radix.Same(put(nil, m), put(nil, n)); got != (i == j) {
				t.Errorf("%v and %v: got %v", m, n, got)
			}
		}
		for key := range m {
			n := maps.Clone(m)
			n[key] = "other"
			if radix.Same(put(nil, m), put(nil, n)) {
				t.Errorf("another value of %q", key)
			}
		}
	}
}

// P11.3: nodes that are the tree of their pairs, and others that are not: nil; a
// root with a label; children with no label, in another order, beginning with
// the same byte, or without a value and fewer than two children, at any depth.
func TestCanon(t *testing.T) {
	leaf := func(label string) *radix.Node { return radix.Make(label, true, "") }
	bare := func(label string, kids ...*radix.Node) *radix.Node { return radix.Make(label, false, "", kids...) }
	kids := []struct {
		l    []*radix.Node
		want bool
	}{
		{nil, true},
		{[]*radix.Node{leaf("a")}, true},
		{[]*radix.Node{leaf("abc")}, true},
		{[]*radix.Node{leaf("\x00"), leaf("a"), leaf("\x80"), leaf("\xff")}, true},
		{[]*radix.Node{leaf("az"), leaf("ba")}, true},
		{[]*radix.Node{bare("a", leaf("b"), leaf("c"))}, true},
		{[]*radix.Node{radix.Make("a", true, "", leaf("a"))}, true},
		{[]*radix.Node{leaf("b"), leaf("a")}, false},
		{[]*radix.Node{leaf("\x80"), leaf("a")}, false},
		{[]*radix.Node{leaf("a"), leaf("c"), leaf("b")}, false},
		{[]*radix.Node{leaf("a"), leaf("a")}, false},
		{[]*radix.Node{leaf("ab"), leaf("ac")}, false},
		{[]*radix.Node{leaf("a"), leaf("ab")}, false},
		{[]*radix.Node{leaf("")}, false},
		{[]*radix.Node{leaf(""), leaf("a")}, false},
		{[]*radix.Node{leaf("a"), leaf("")}, false},
		{[]*radix.Node{bare("a")}, false},
		{[]*radix.Node{leaf("a"), bare("b")}, false},
		{[]*radix.Node{bare("a", leaf("b"))}, false},
		{[]*radix.Node{bare("", leaf("b"), leaf("c"))}, false},
		{[]*radix.Node{bare("a", bare("b", leaf("c"), leaf("d")))}, false},
		{[]*radix.Node{bare("a", leaf("c"), leaf("b"))}, false},
	}
	for i, c := range kids {
		for j, n := range map[string]*radix.Node{
			"at the root":             radix.Make("", false, "", c.l...),
			"at a root with a value":  radix.Make("", true, "1", c.l...),
			"below a value":           radix.Make("", false, "", radix.Make("x", true, "", c.l...)),
			"far below":               radix.Make("", false, "", leaf("a"), radix.Make("x", true, "", leaf("a"), radix.Make("y", true, "", c.l...), leaf("z"))),
			"below a shared node":     radix.Make("", false, "", radix.Make("p", true, "", radix.Make("x", true, "", c.l...)), radix.Make("q", true, "", radix.Make("x", true, "", c.l...))),
			"beside another that is":  radix.Make("", false, "", radix.Make("x", true, "", c.l...), radix.Make("y", true, "", leaf("a"))),
			"behind another that is":  radix.Make("", false, "", radix.Make("x", true, "", leaf("a")), radix.Make("y", true, "", c.l...)),
			"below a branch of three": radix.Make("", false, "", bare("x", leaf("a"), radix.Make("b", true, "", c.l...), leaf("c"))),
		} {
			if got := radix.Canon(n); got != c.want {
				t.Errorf("%d, %s: got %v", i, j, got)
			}
		}
		if radix.Canon(radix.Make("x", true, "", c.l...)) || radix.Canon(radix.Make("x", false, "", c.l...)) {
			t.Errorf("%d: a root with a label: true", i)
		}
	}
	if radix.Canon(nil) || !radix.Canon(radix.Empty()) {
		t.Error("nil, or the tree without pairs")
	}
}

// P11.3: Canon is true exactly for nodes that are the tree of their pairs by the
// definition, of all those with some children, and children of these.
func TestCanonByDefinition(t *testing.T) {
	var small []*radix.Node
	for _, label := range []string{"", "a", "b", "ab"} {
		small = append(small, radix.Make(label, true, ""), radix.Make(label, false, ""))
	}
	var middle []*radix.Node
	for _, x := range append(small, nil) {
		for _, y := range append(small, nil) {
			middle = append(middle, radix.Make("a", false, "", x, y), radix.Make("b", true, "", x, y))
		}
	}
	trees := 0
	for _, x := range append(middle, nil) {
		for _, y := range slices.Concat(middle, small) {
			for _, n := range []*radix.Node{radix.Make("", false, "", x, y), radix.Make("", true, "", y, x)} {
				want := differs(n, branch("", pairsOf(contents(n)))) == ""
				if radix.Canon(n) != want {
					t.Fatalf("%x: not %v", shaped(n), want)
				}
				if want {
					trees++
				}
			}
		}
	}
	if trees < 50 {
		t.Errorf("only %d trees", trees)
	}
}

// P11.2 and P11.3: trees with 2^16 paths, of few nodes; and 2^16 levels.
func TestManyPaths(t *testing.T) {
	root := radix.Make("", true, "")
	for range 15 {
		root = radix.Make("", false, "", radix.Make("a", true, "", root.Kids()...), radix.Make("b", true, "", root.Kids()...))
	}
	m := map[string]string{}
	for _, p := range pairsOf(contents(root)) {
		m[p.Key] = p.Value
	}
	check(t, "2^16 paths", root, m)
	if len(m) != 1<<16-2 || !radix.Same(root, branch("", pairsOf(m))) {
		t.Errorf("got %d", len(m))
	}
	got, _ := radix.Drop(nil, root, "aba")
	if radix.Same(root, got) || radix.Len(got) != len(m)-1 {
		t.Error("after a Drop")
	}
	long := radix.Make("x", true, "1")
	for range 1<<16 - 2 {
		long = radix.Make("x", true, "", long)
	}
	long = radix.Make("", false, "", long)
	key := strings.Repeat("x", 1<<16-1)
	if v, ok := radix.Get(long, key); v != "1" || !ok || radix.Len(long) != 1<<16-1 || !radix.Canon(long) {
		t.Errorf("2^16 levels: got %q, %v, %d", v, ok, radix.Len(long))
	}
	next, _ := radix.Put(nil, long, pair.Pair{Key: key, Value: "2"})
	if radix.Same(next, long) || len(radix.Shape(next)) != len(radix.Shape(long)) {
		t.Error("another value at the end")
	}
	next, ok := radix.Drop(nil, long, key)
	if !ok || radix.Len(next) != 1<<16-2 || !radix.Canon(next) {
		t.Error("without the end")
	}
}

// P1: every call ends, and none panics, for nodes that are no trees: with labels
// that are empty, equal or in any order, with a label at the root, without
// values, and with nodes at very many places.
func TestNoTrees(t *testing.T) {
	_, by := takes(t, 1)
	owned := put(by[0], map[string]string{"a": "", "ab": "", "b": "", "ba": "", "bb": ""})
	roots := append(several(), owned.Kids()...)
	roots = append(roots, radix.Make("", false, "", roots...), radix.Make("a", false, "", owned.Kids()...))
	for _, label := range []string{"", "a"} {
		n := radix.Make(label, true, "")
		for range 200 {
			n = radix.Make(label, false, "", n, n, n)
		}
		radix.Len(n)
		radix.Canon(n)
		for _, key := range []string{"", "a", "aaa", strings.Repeat("a", 300)} {
			everyCall(n, key, nil, by[0])
		}
	}
	full := radix.Empty()
	for range 60 {
		full = radix.Make("", false, "", radix.Make("a", true, "", full.Kids()...), radix.Make("b", true, "", full.Kids()...))
	}
	if radix.Len(full) != 1<<61-2 || !radix.Canon(full) || !radix.Same(full, full) {
		t.Errorf("2^60 paths: got %d", radix.Len(full))
	}
	everyCall(full, "abab", nil, by[0])
	for _, root := range roots {
		before := shaped(root)
		for _, key := range []string{"", "a", "b", "ab", "ba", "abc", "\xff"} {
			everyCall(root, key, nil)
		}
		if shaped(root) != before {
			t.Fatal("a node has changed")
		}
	}
	for _, root := range roots {
		for _, key := range []string{"", "a", "b", "ab", "ba", "abc", "\xff"} {
			everyCall(root, key, by[0])
		}
		radix.Len(root)
		radix.Canon(root)
		radix.Shape(root)
	}
}

func everyCall(root *radix.Node, key string, tokens ...*token.Token) {
	radix.Get(root, key)
	for _, with := range tokens {
		n, _ := radix.Put(with, root, of(key))
		radix.Drop(with, n, key)
		radix.Drop(with, root, key)
	}
}

// Memory: Shape's results share nothing.
func TestShapeMemory(t *testing.T) {
	root := put(nil, map[string]string{"": "1", "abc": "2", "abd": "3", "x": "4"})
	want := shaped(root)
	one, two := radix.Shape(root), radix.Shape(root)
	one = one[:cap(one)]
	for i := range one {
		one[i] = 0xee
	}
	if string(two) != want || string(radix.Shape(root)) != want {
		t.Error("a result shares memory")
	}
}

// P2: the same calls on equal trees have equal results, whoever owns the nodes
// and whatever was called before.
func TestSameCalls(t *testing.T) {
	_, by := takes(t, 1)
	plain, owned := radix.Empty(), radix.Empty()
	next := step(5)
	for range 2000 {
		p := pair.Pair{Key: words()[next(31)], Value: strconv.Itoa(next(3))}
		var one, two bool
		if next(2) == 0 {
			plain, one = radix.Drop(nil, plain, p.Key)
			radix.Put(nil, owned, of(p.Key))
			owned, two = radix.Drop(by[0], owned, p.Key)
		} else {
			plain, one = radix.Put(nil, plain, p)
			radix.Drop(nil, owned, p.Key)
			owned, two = radix.Put(by[0], owned, p)
		}
		if one != two || !radix.Same(plain, owned) || radix.Len(plain) != radix.Len(owned) {
			t.Fatalf("%q: got %v, %v", p.Key, one, two)
		}
	}
}
