package near_test

import (
	"maps"
	"math"
	"slices"
	"strconv"
	"strings"
	"testing"

	"quickset/api"
	"quickset/near"
	"quickset/pair"
	"quickset/radix"
	"quickset/token"
)

// odd are keys of any bytes and any length, also longer than the limits of later
// layers; many begin with another.
var odd = []string{"", "\x00", "\x00\x00", "\x00\xff", "a", "a\x00", "a\x00\x00", "a\xff", "a\xff\xff", "ab", "abc", "b", "\n", "\x7f", "\x80", "\xc3\xa9", "\xc3", "\xc3\xa8", "\xfe\xff", "\xff", "\xff\xff", "\xff\x00", "\xff\xff\xff\x00", strings.Repeat("k", api.MaxKey), strings.Repeat("k", api.MaxKey+1), strings.Repeat("k", api.MaxKey) + "l", strings.Repeat("\x00", 9000), strings.Repeat("w", 70000)}

func of(key string) pair.Pair {
	return pair.Pair{Key: key, Value: "<" + key + ">"}
}

// keys are n keys in an order that is not that of their bytes.
func keys(n int) []string {
	var l []string
	for i := range n {
		l = append(l, "key "+strconv.Itoa(i*7919%n))
	}
	return l
}

// words are all strings of up to n of the bytes.
func words(n int, bytes string) []string {
	l := []string{""}
	for from := 0; len(l[from]) < n; from++ {
		for i := range len(bytes) {
			l = append(l, l[from]+bytes[i:i+1])
		}
	}
	return l
}

// sets are all sets of these keys.
func sets(l ...string) [][]string {
	if len(l) == 0 {
		return [][]string{nil}
	}
	var all [][]string
	for _, s := range sets(l[1:]...) {
		all = append(all, s, append([]string{l[0]}, s...))
	}
	return all
}

// around are a key and keys that are very near to it, or far from it.
func around(key string) []string {
	l := []string{key, "", key + "\x00", key + "\xff", key + key, key[:len(key)/2], key[len(key)/2:], "\x00" + key, "\xff" + key, "\x00", "\xff\xff\xff\xff"}
	if last := len(key) - 1; last >= 0 {
		l = append(l, key[:last], key[:last]+string([]byte{key[last] + 1}), key[:last]+string([]byte{key[last] - 1}), key[:last]+string([]byte{key[last] - 1})+"\xff")
	}
	return l
}

func tree(by *token.Token, l ...string) *radix.Node {
	root := radix.Empty()
	for _, key := range l {
		root, _ = radix.Put(by, root, of(key))
	}
	return root
}

// take returns a live token.
func take(t *testing.T) *token.Token {
	t.Helper()
	pool, err := token.New(1)
	if err != api.OK {
		t.Fatal(err)
	}
	by, err := pool.Take()
	if err != api.OK {
		t.Fatal(err)
	}
	return by
}

// found is the pair that a call returns, or none.
type found struct {
	pair.Pair
	ok bool
}

func (f found) String() string {
	if !f.ok {
		return "none"
	}
	return f.Key
}

func got(p pair.Pair, ok bool) found {
	return found{p, ok}
}

// best is the definition of all calls but Rank and Nth: of the keys that are
// right, the one that is better than all others.
func best(l []string, right func(string) bool, better func(a, b string) bool) found {
	var f found
	for _, key := range l {
		if right(key) && (!f.ok || better(key, f.Key)) {
			f = found{of(key), true}
		}
	}
	return f
}

func less(a, b string) bool    { return a < b }
func greater(a, b string) bool { return a > b }
func longer(a, b string) bool  { return len(a) > len(b) }
func every(string) bool        { return true }

// ask checks the calls that take a key.
func ask(t *testing.T, root *radix.Node, l []string, key string) {
	t.Helper()
	rank := 0
	for _, k := range l {
		if k < key {
			rank++
		}
	}
	if n := near.Rank(root, key); n != rank {
		t.Fatalf("%.50q: Rank of %.50q: got %d, want %d", l, key, n, rank)
	}
	for _, c := range []struct {
		name      string
		got, want found
	}{
		{"Floor", got(near.Floor(root, key)), best(l, func(k string) bool { return k <= key }, greater)},
		{"Ceil", got(near.Ceil(root, key)), best(l, func(k string) bool { return k >= key }, less)},
		{"Below", got(near.Below(root, key)), best(l, func(k string) bool { return k < key }, greater)},
		{"Above", got(near.Above(root, key)), best(l, func(k string) bool { return k > key }, less)},
		{"Longest", got(near.Longest(root, key)), best(l, func(k string) bool { return strings.HasPrefix(key, k) }, longer)},
	} {
		if c.got != c.want {
			t.Fatalf("%.50q: %s of %.50q: got %.50q, want %.50q", l, c.name, key, c.got, c.want)
		}
	}
}

// places checks the calls that take no key.
func places(t *testing.T, root *radix.Node, l []string) {
	t.Helper()
	if f, want := got(near.Min(root)), best(l, every, less); f != want {
		t.Fatalf("%.50q: Min: got %.50q, want %.50q", l, f, want)
	}
	if f, want := got(near.Max(root)), best(l, every, greater); f != want {
		t.Fatalf("%.50q: Max: got %.50q, want %.50q", l, f, want)
	}
	for i, key := range slices.Sorted(slices.Values(l)) {
		if f := got(near.Nth(root, i)); f != (found{of(key), true}) {
			t.Fatalf("%.50q: Nth of %d: got %.50q, want %.50q", l, i, f, key)
		}
	}
	for _, i := range []int{-1, -2, -len(l), -len(l) - 1, math.MinInt, math.MinInt + 1, len(l), len(l) + 1, 2*len(l) + 1, math.MaxInt - 1, math.MaxInt} {
		if f := got(near.Nth(root, i)); f != (found{}) && (i != 0 || len(l) > 0) {
			t.Fatalf("%.50q: Nth of %d: got %.50q", l, i, f)
		}
	}
}

// P12.1, P9: every set of short keys, and every short key, there or not: keys
// with which others begin, and that begin with others, are among them.
func TestShort(t *testing.T) {
	asked := words(4, "ab")
	for _, l := range sets(words(2, "ab")...) {
		root := tree(nil, l...)
		places(t, root, l)
		for _, key := range asked {
			ask(t, root, l, key)
		}
	}
	asked = words(3, "\x00a\xff")
	for _, l := range sets("", "\x00", "\x00\x00", "\x00\xff", "a\xff", "\xff", "\xff\x00", "\xff\xff") {
		root := tree(nil, l...)
		places(t, root, l)
		for _, key := range asked {
			ask(t, root, l, key)
		}
	}
}

// P12.1: keys of any bytes and any length, and what is around each; what is
// beyond the smallest and the largest one.
func TestOdd(t *testing.T) {
	for _, l := range [][]string{odd, odd[1:], odd[3:9], odd[9:], append([]string{"\xff\xff\xff\xff\xff"}, odd...)} {
		root := tree(nil, l...)
		places(t, root, l)
		for _, key := range odd {
			for _, asked := range around(key) {
				ask(t, root, l, asked)
			}
		}
	}
}

// P12.1: more keys, with each byte after the same ones, and with labels that go
// on.
func TestMore(t *testing.T) {
	var all []string
	for i := range 256 {
		all = append(all, "x"+string([]byte{byte(i * 7)}))
		if i%3 == 0 {
			all = append(all, "x"+string([]byte{byte(i * 7)})+"yz")
		}
	}
	for _, l := range [][]string{keys(1), keys(10), keys(300), all} {
		root := tree(nil, l...)
		places(t, root, l)
		for i := 0; i < len(l); i += 1 + len(l)/70 {
			for _, asked := range around(l[i]) {
				ask(t, root, l, asked)
			}
		}
	}
}

// P12.1: nil counts as a tree without pairs.
func TestNone(t *testing.T) {
	dropped, _ := radix.Drop(nil, tree(nil, "a"), "a")
	for _, root := range []*radix.Node{nil, radix.Empty(), dropped} {
		places(t, root, nil)
		for _, key := range odd {
			ask(t, root, nil, key)
		}
		if f := got(near.Nth(root, 0)); f != (found{}) {
			t.Errorf("got %v", f)
		}
	}
}

// P12.1: one pair, of an empty key too, and with an empty value.
func TestOne(t *testing.T) {
	for _, key := range odd {
		root := tree(nil, key)
		places(t, root, []string{key})
		for _, asked := range append(around(key), odd...) {
			ask(t, root, []string{key}, asked)
		}
		plain, _ := radix.Put(nil, nil, pair.Pair{Key: key})
		for _, f := range []found{got(near.Min(plain)), got(near.Max(plain)), got(near.Floor(plain, key)), got(near.Ceil(plain, key)), got(near.Longest(plain, key)), got(near.Nth(plain, 0)), got(near.Below(plain, key+"a")), got(near.Above(plain, key[:len(key)/2]))} {
			if f != (found{pair.Pair{Key: key}, true}) && (key != "" || f != (found{})) {
				t.Errorf("%.50q: got %.50q", key, f)
			}
		}
	}
}

// P12.1: the document's examples.
func TestExamples(t *testing.T) {
	root := tree(nil, "a", "ab", "b")
	for _, c := range []struct {
		got  found
		want string
	}{
		{got(near.Floor(root, "aa")), "a"}, {got(near.Ceil(root, "aa")), "ab"}, {got(near.Longest(root, "abc")), "ab"},
	} {
		if c.got != (found{of(c.want), true}) {
			t.Errorf("got %q, want %q", c.got, c.want)
		}
	}
}

// P12.1: a tree with a key that is deep below all its beginnings.
func TestDeep(t *testing.T) {
	var l []string
	by := take(t)
	for i := range 1500 {
		l = append(l, strings.Repeat("a", i))
	}
	root := tree(by, l...)
	for i, key := range l {
		if f := got(near.Nth(root, i)); i%100 == 99 && f != (found{of(key), true}) {
			t.Fatalf("Nth of %d: got %.50q", i, f)
		}
	}
	for _, key := range []string{"", "a", "b", l[1499], l[1499] + "a", l[1499] + "b", l[700] + "b", l[700] + "A"} {
		ask(t, root, l, key)
	}
}

// P12.1: the tree of all strings of 30 of the bytes a and b, whose equal
// branches are one node. It has more pairs than can be gone through.
func TestShared(t *testing.T) {
	root := radix.Make("", false, "", shared(30, true, "")...)
	for _, i := range []int{0, 1, 2, 1 << 20, 1<<30 - 2, 1<<30 - 1} {
		key := strings.NewReplacer("0", "a", "1", "b").Replace(strconv.FormatInt(1<<30+int64(i), 2)[1:])
		if f := got(near.Nth(root, i)); f != (found{pair.Pair{Key: key}, true}) || near.Rank(root, key) != i || near.Rank(root, key+"a") != i+1 {
			t.Errorf("Nth of %d: got %q, Rank %d", i, f, near.Rank(root, key))
		}
	}
	if f := got(near.Nth(root, 1<<30)); f != (found{}) || near.Rank(root, "c") != 1<<30 {
		t.Errorf("got %q, Rank %d", f, near.Rank(root, "c"))
	}
}

// shared returns the children a and b of a node, each with the same children, to
// some depth.
func shared(depth int, has bool, value string) []*radix.Node {
	kids := []*radix.Node{radix.Make("a", has, value), radix.Make("b", has, value)}
	for range depth - 1 {
		kids = []*radix.Node{radix.Make("a", false, "", kids...), radix.Make("b", false, "", kids...)}
	}
	return kids
}

// P1: every call ends, and none panics, for nodes that are no trees: with labels
// that are empty, equal or in any order, with a label at the root, without
// values, and with nodes at very many places. P2: and has the same result again.
func TestNoTrees(t *testing.T) {
	leaf := radix.Make("", false, "")
	roots := []*radix.Node{radix.Make("a", false, ""), radix.Make("a", true, "1"), radix.Make("", false, "", leaf, leaf, nil), radix.Make("", true, "", leaf, radix.Make("b", true, ""), radix.Make("a", true, ""), radix.Make("", true, ""))}
	roots = append(roots, radix.Make("ab", true, "2", roots...), radix.Make("", false, "", append(roots, roots...)...))
	for _, label := range []string{"", "a"} {
		for _, has := range []bool{false, true} {
			wide := radix.Make(label, has, "")
			for range 200 {
				wide = radix.Make(label, false, "", wide, wide, wide)
			}
			roots = append(roots, wide, radix.Make("", false, "", shared(100, has, "")...))
		}
	}
	long := radix.Make("a", true, "")
	for range 100000 {
		long = radix.Make("a", false, "", long)
	}
	roots = append(roots, long)
	for _, root := range roots {
		first := all(root)
		for f, again := range all(root) {
			if again != first[f] {
				t.Errorf("%s: got %v, then %v", f, first[f], again)
			}
		}
	}
}

// all are the results of calls of all kinds, by name.
func all(root *radix.Node) map[string]found {
	m := map[string]found{"Min": got(near.Min(root)), "Max": got(near.Max(root))}
	for _, key := range []string{"", "a", "b", "aaa", "abab", "\xff", strings.Repeat("a", 300)} {
		m["Floor "+key] = got(near.Floor(root, key))
		m["Ceil "+key] = got(near.Ceil(root, key))
		m["Below "+key] = got(near.Below(root, key))
		m["Above "+key] = got(near.Above(root, key))
		m["Longest "+key] = got(near.Longest(root, key))
		m["Rank "+key] = found{pair.Pair{Value: strconv.Itoa(near.Rank(root, key))}, true}
	}
	for _, i := range []int{math.MinInt, -1, 0, 1, 2, 9, 1000, math.MaxInt} {
		m["Nth "+strconv.Itoa(i)] = got(near.Nth(root, i))
	}
	return m
}

// P2: a result is that of the tree as it is: calls do not affect one another or
// the tree, and a change with or without a token is a change of the results.
func TestSameCalls(t *testing.T) {
	by := take(t)
	for _, with := range []*token.Token{nil, by} {
		root := tree(with, keys(40)...)
		shape := radix.Shape(root)
		before := all(root)
		for range 3 {
			if !maps.Equal(all(root), before) {
				t.Fatal("another result")
			}
		}
		if !slices.Equal(radix.Shape(root), shape) {
			t.Fatal("the tree has changed")
		}
		l := keys(40)
		for len(l) > 0 {
			places(t, root, l)
			ask(t, root, l, l[0])
			root, _ = radix.Drop(with, root, l[0])
			l = l[1:]
			ask(t, root, l, "key 2")
		}
		places(t, root, nil)
	}
}
