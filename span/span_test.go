package span_test

import (
	"slices"
	"strconv"
	"strings"
	"testing"

	"quickset/api"
	"quickset/pair"
	"quickset/radix"
	"quickset/span"
	"quickset/token"
)

// odd are keys of any bytes and any length, also longer than the limits of later
// layers; many begin with another.
var odd = []string{"", "\x00", "\x00\x00", "\x00\xff", "a", "a\x00", "a\x00\x00", "a\xff", "a\xff\xff", "ab", "abc", "b", "\n", "\x7f", "\x80", "\xc3\xa9", "\xc3", "\xc3\xa8", "\xfe\xff", "\xff", "\xff\xff", "\xff\x00", "\xff\xff\xff\x00", strings.Repeat("k", api.MaxKey), strings.Repeat("k", api.MaxKey+1), strings.Repeat("k", api.MaxKey) + "l", strings.Repeat("\x00", 9000)}

func of(key string) pair.Pair {
	return pair.Pair{Key: key, Value: "<" + key + ">"}
}

// keys are n keys in an order that is not that of their bytes.
func keys(n int) []string {
	var l []string
	for i := range n {
		l = append(l, "key "+strconv.Itoa(i*7919%n))
	}
	return l
}

// words are all strings of up to n of the bytes.
func words(n int, bytes string) []string {
	l := []string{""}
	for from := 0; len(l[from]) < n; from++ {
		for i := range len(bytes) {
			l = append(l, l[from]+bytes[i:i+1])
		}
	}
	return l
}

// sets are all sets of these keys.
func sets(l ...string) [][]string {
	if len(l) == 0 {
		return [][]string{nil}
	}
	var all [][]string
	for _, s := range sets(l[1:]...) {
		all = append(all, s, append([]string{l[0]}, s...))
	}
	return all
}

// spans are all spans between two of these keys, in either order, and from each
// one on; the last ones also with a To that is of no account.
func spans(l ...string) []span.Span {
	all := []span.Span{span.All(), {}}
	for _, from := range l {
		for _, to := range l {
			all = append(all, span.Span{From: from, To: to})
		}
		all = append(all, span.Prefix(from), span.Span{From: from, Open: true}, span.Span{From: from, To: l[len(l)/2], Open: true})
	}
	return all
}

func tree(by *token.Token, l ...string) *radix.Node {
	root := radix.Empty()
	for _, key := range l {
		root, _ = radix.Put(by, root, of(key))
	}
	return root
}

// take returns a live token, and its pool.
func take(t *testing.T) (*token.Token, *token.Pool) {
	t.Helper()
	pool, err := token.New(1)
	if err != api.OK {
		t.Fatal(err)
	}
	by, err := pool.Take()
	if err != api.OK {
		t.Fatal(err)
	}
	return by, pool
}

// contains is the definition of a span (P13.1).
func contains(s span.Span, key string) bool {
	return key >= s.From && (s.Open || key < s.To)
}

// text tells a span, or the beginning of it if it is long.
func text(s span.Span) string {
	out := "from " + strconv.Quote(s.From) + " to " + strconv.Quote(s.To)
	if s.Open {
		out = "open " + out
	}
	return out[:min(len(out), 200)]
}

// pairs are, by the definition, those of a span, in increasing order or back.
func pairs(l []string, s span.Span, back bool) []pair.Pair {
	var out []pair.Pair
	for _, key := range slices.Sorted(slices.Values(l)) {
		if contains(s, key) {
			out = append(out, of(key))
		}
	}
	if back {
		slices.Reverse(out)
	}
	return out
}

// follow checks that exactly these pairs are ahead of a cursor, and the end
// again and again.
func follow(t *testing.T, what string, c *span.Cursor, want []pair.Pair) {
	t.Helper()
	for i, w := range want {
		if p, ok := c.Next(); p != w || !ok {
			t.Fatalf("%s: pair %d: got %.50q, %v, want %.50q", what, i, p.Key, ok, w.Key)
		}
	}
	for range 3 {
		if p, ok := c.Next(); p != (pair.Pair{}) || ok {
			t.Fatalf("%s: after the end: got %.50q, %v", what, p.Key, ok)
		}
	}
}

// check holds all calls against the definition.
func check(t *testing.T, root *radix.Node, l []string, s span.Span) {
	t.Helper()
	for _, back := range []bool{false, true} {
		want := pairs(l, s, back)
		what := text(s) + " of " + strconv.Itoa(len(l))
		follow(t, what, span.New(root, s, back), want)
		each := span.Each(root, s, back)
		for range 2 {
			if got := slices.Collect(each); !pair.Same(got, want) {
				t.Fatalf("%s: Each: got %.50q, want %.50q", what, got, want)
			}
		}
		if got := span.Count(root, s); got != len(want) {
			t.Fatalf("%s: Count: got %d, want %d", what, got, len(want))
		}
		if got := span.Pairs(root, s); !back && !pair.Same(got, want) {
			t.Fatalf("%s: Pairs: got %.50q, want %.50q", what, got, want)
		}
	}
}

// P13.1: what a span contains, as its fields tell: From equal to To, From above
// To, and Open ones with any To.
func TestHas(t *testing.T) {
	for _, s := range spans(append(words(2, "\x00a\xff"), odd...)...) {
		for _, key := range odd {
			if got := s.Has(key); got != contains(s, key) {
				t.Fatalf("%s has %.50q: got %v", text(s), key, got)
			}
		}
		for _, key := range []string{s.From, s.From + "\x00", s.To, s.To + "\x00"} {
			if got := s.Has(key); got != contains(s, key) {
				t.Fatalf("%s has %.50q: got %v", text(s), key, got)
			}
		}
	}
}

// P13.1: All contains all keys, Prefix those that begin with p: also if its
// bytes are all 255, or if it is empty.
func TestPrefix(t *testing.T) {
	asked := append(words(4, "\x00a\xfe\xff"), odd...)
	for _, p := range append(words(3, "\x00a\xfe\xff"), odd...) {
		s := span.Prefix(p)
		for _, key := range append(asked, p, p+"\x00", p+"\xff\xff", p+p) {
			if got := s.Has(key); got != strings.HasPrefix(key, p) {
				t.Fatalf("Prefix(%.50q) has %.50q: got %v", p, key, got)
			}
			if !span.All().Has(key) || !span.Prefix("").Has(key) {
				t.Fatalf("not all: %.50q", key)
			}
		}
	}
}

// P13.1: spans are values.
func TestSpanValues(t *testing.T) {
	if span.All() != (span.Span{Open: true}) || span.Prefix("a\xff") != (span.Span{From: "a\xff", To: "b"}) || span.Prefix("\xff") != (span.Span{From: "\xff", Open: true}) || span.Prefix("") != span.All() {
		t.Error("another span")
	}
	s := span.Prefix("a")
	other := s
	other.From, other.Open = "b", true
	if s != span.Prefix("a") || s.Has("b") {
		t.Error("a span has changed with another one")
	}
}

// P13.2, P9: every set of short keys, in every span between short keys.
func TestShort(t *testing.T) {
	all := spans(words(3, "ab")...)
	for _, l := range sets(words(2, "ab")...) {
		root := tree(nil, l...)
		for _, s := range all {
			check(t, root, l, s)
		}
	}
	all = spans(words(2, "\x00a\xff")...)
	for _, l := range sets("", "\x00", "\x00\x00", "\x00\xff", "a\xff", "\xff", "\xff\x00", "\xff\xff") {
		root := tree(nil, l...)
		for _, s := range all {
			check(t, root, l, s)
		}
	}
}

// P13.2: keys of any bytes and any length.
func TestOdd(t *testing.T) {
	all := spans(append([]string{"a\x00b", "\xff\xff\xff\xff", "kk", "kl"}, odd...)...)
	for _, l := range [][]string{odd, odd[1:], odd[4:12], odd[19:23]} {
		root := tree(nil, l...)
		for _, s := range all {
			check(t, root, l, s)
		}
	}
}

// P13.2: a nil root is a tree without pairs; trees with none, or with one.
func TestFew(t *testing.T) {
	dropped, _ := radix.Drop(nil, tree(nil, "a"), "a")
	all := spans("", "a", "b", "\x00", "\xff")
	for _, s := range all {
		for _, root := range []*radix.Node{nil, radix.Empty(), dropped} {
			check(t, root, nil, s)
		}
		for _, key := range odd {
			check(t, tree(nil, key), []string{key}, s)
		}
	}
	plain, _ := radix.Put(nil, nil, pair.Pair{Key: "a"})
	follow(t, "an empty value", span.New(plain, span.All(), true), []pair.Pair{{Key: "a"}})
}

// P13.2: many keys, and each byte after the same ones.
func TestMany(t *testing.T) {
	var bytes []string
	for i := range 256 {
		bytes = append(bytes, "x"+string([]byte{byte(i * 7)}))
	}
	by, _ := take(t)
	for _, l := range [][]string{keys(2000), bytes} {
		root := tree(by, l...)
		for _, s := range spans("", "key 1", "key 12", "key 123", "key 2", "x", "x\x00", "x\x70", "x\xff", "y") {
			check(t, root, l, s)
		}
	}
}

// P13.2: a key that is deep below all its beginnings.
func TestDeep(t *testing.T) {
	var l []string
	by, _ := take(t)
	for i := range 1000 {
		l = append(l, strings.Repeat("a", i))
	}
	root := tree(by, l...)
	for _, s := range spans("", "a", "b", l[500], l[500]+"b", l[999], l[999]+"a") {
		check(t, root, l, s)
	}
}

// P13.2: the document's example.
func TestExample(t *testing.T) {
	follow(t, "a, ab, b", span.New(tree(nil, "a", "ab", "b"), span.Prefix("a"), true), []pair.Pair{of("ab"), of("a")})
}

// P13.2: a copy goes on by itself, from every position: from the beginning, from
// the middle, and at the end.
func TestCopy(t *testing.T) {
	for _, l := range [][]string{nil, {""}, words(3, "ab"), odd, keys(60)} {
		root := tree(nil, l...)
		for _, s := range spans("", "a", "b", "key 3", "\xff") {
			for _, back := range []bool{false, true} {
				want := pairs(l, s, back)
				for n := range len(want) + 1 {
					c := span.New(root, s, back)
					for range n {
						c.Next()
					}
					d := c.Copy()
					e := d.Copy()
					if n%2 == 0 {
						follow(t, "the first one", c, want[n:])
						follow(t, "a copy", d, want[n:])
					} else {
						together(t, c, d, want[n:])
					}
					follow(t, "a copy's copy", e, want[n:])
					follow(t, "a copy at the end", d.Copy(), nil)
				}
			}
		}
	}
}

// together checks that two cursors go on by turns.
func together(t *testing.T, c, d *span.Cursor, want []pair.Pair) {
	t.Helper()
	for _, w := range want {
		for _, x := range []*span.Cursor{c, d} {
			if p, ok := x.Next(); p != w || !ok {
				t.Fatalf("by turns: got %.50q, want %.50q", p.Key, w.Key)
			}
		}
	}
	follow(t, "by turns", c, nil)
	follow(t, "by turns", d, nil)
}

// P13.2: an iteration that is left early, also ahead of its end by nothing, and
// one within another.
func TestLeave(t *testing.T) {
	l := words(3, "ab")
	root := tree(nil, l...)
	each := span.Each(root, span.Prefix("a"), true)
	want := pairs(l, span.Prefix("a"), true)
	for n := 1; n <= len(want); n++ {
		var got []pair.Pair
		for p := range each {
			if got = append(got, p); len(got) == n {
				break
			}
		}
		if !pair.Same(got, want[:n]) {
			t.Fatalf("left after %d: got %q", n, got)
		}
	}
	count := 0
	for p := range each {
		for q := range each {
			if q == p {
				count++
				break
			}
		}
	}
	if count != len(want) {
		t.Errorf("got %d of %d", count, len(want))
	}
}

// P13.2: a cursor goes on through the tree as it was, whatever is made of it
// without a token that owns its nodes: with none, with another one, or with its
// own one after its end.
func TestChanges(t *testing.T) {
	l := append(words(3, "ab"), keys(30)...)
	other, _ := take(t)
	for _, s := range []span.Span{span.All(), span.Prefix("a"), {From: "aab", To: "key 2"}} {
		for _, back := range []bool{false, true} {
			by, pool := take(t)
			owned := tree(by, l...)
			pool.End(by)
			for _, root := range []*radix.Node{tree(nil, l...), owned} {
				for _, with := range []*token.Token{nil, other, by} {
					c := span.New(root, s, back)
					changed := root
					for i, w := range pairs(l, s, back) {
						changed, _ = radix.Put(with, changed, pair.Pair{Key: w.Key, Value: "new"})
						changed, _ = radix.Put(with, changed, pair.Pair{Key: w.Key + "a", Value: "new"})
						changed, _ = radix.Drop(with, changed, l[i])
						radix.Drop(with, root, w.Key)
						if p, ok := c.Next(); p != w || !ok {
							t.Fatalf("got %q, want %q", p, w)
						}
					}
					follow(t, "a changed tree", c, nil)
					check(t, root, l, s)
				}
			}
		}
	}
}

// P1, P2: no cursor has no pairs.
func TestNilCursor(t *testing.T) {
	var c *span.Cursor
	for range 2 {
		if p, ok := c.Next(); p != (pair.Pair{}) || ok || c.Copy() != nil {
			t.Error("no cursor has something")
		}
	}
}

// Memory: a list can be overwritten, its spare capacity, too.
func TestMemory(t *testing.T) {
	l := words(3, "ab")
	root := tree(nil, l...)
	for _, s := range []span.Span{span.All(), span.Prefix("a"), span.Prefix("b")} {
		c := span.New(root, s, false)
		first, second := span.Pairs(root, s), span.Pairs(root, s)
		clear(first[:cap(first)])
		if want := pairs(l, s, false); !pair.Same(second, want) {
			t.Errorf("got %q", second)
		}
		follow(t, "overwritten", c, second)
		check(t, root, l, s)
	}
}

// P2: iterations and counts do not affect one another, or the tree.
func TestSameCalls(t *testing.T) {
	l := append(keys(40), words(4, "ab")...)
	root := tree(nil, l...)
	shape := radix.Shape(root)
	for _, s := range spans("", "a", "ab", "b", "\xff") {
		for _, back := range []bool{false, true} {
			c := span.New(root, s, back)
			for _, w := range pairs(l, s, back) {
				span.New(root, s, !back).Next()
				c.Copy().Next()
				span.Count(root, s)
				if p, ok := c.Next(); p != w || !ok {
					t.Fatalf("got %.50q, want %.50q", p.Key, w.Key)
				}
			}
		}
	}
	if !slices.Equal(radix.Shape(root), shape) {
		t.Error("the tree has changed")
	}
}

// shared returns the children a and b of a node, each with the same children, to
// some depth.
func shared(depth int, has bool) []*radix.Node {
	kids := []*radix.Node{radix.Make("a", has, ""), radix.Make("b", has, "")}
	for range depth - 1 {
		kids = []*radix.Node{radix.Make("a", false, "", kids...), radix.Make("b", false, "", kids...)}
	}
	return kids
}

// P13.2: the tree of all strings of 30 of the bytes a and b, whose equal
// branches are one node. It has more pairs than can be gone through.
func TestShared(t *testing.T) {
	root := radix.Make("", false, "", shared(30, true)...)
	a, b := strings.Repeat("a", 30), strings.Repeat("b", 30)
	for _, c := range []struct {
		s           span.Span
		count       int
		first, last string
	}{
		{span.All(), 1 << 30, a, b}, {span.Prefix("a"), 1 << 29, a, "a" + b[1:]}, {span.Prefix("b"), 1 << 29, "b" + a[1:], b}, {span.Prefix("abab"), 1 << 26, "abab" + a[4:], "abab" + b[4:]},
		{span.Span{From: "b" + a[1:], To: b}, 1<<29 - 1, "b" + a[1:], b[1:] + "a"}, {span.Span{From: a + "a", Open: true}, 1<<30 - 1, a[1:] + "b", b}, {span.Span{From: a, To: a[1:] + "b"}, 1, a, a}, {span.Span{From: b + "a", Open: true}, 0, "", ""},
	} {
		if n := span.Count(root, c.s); n != c.count {
			t.Errorf("%s: got %d, want %d", text(c.s), n, c.count)
		}
		first, ok := span.New(root, c.s, false).Next()
		last, also := span.New(root, c.s, true).Next()
		if first.Key != c.first || last.Key != c.last || ok != (c.count > 0) || also != ok {
			t.Errorf("%s: got %q, %v and %q, %v", text(c.s), first, ok, last, also)
		}
	}
}

// noTrees are nodes that are no trees: with labels that are empty, equal or in
// any order, with a label at the root, without values.
func noTrees() []*radix.Node {
	leaf := radix.Make("", false, "")
	l := []*radix.Node{radix.Make("a", false, ""), radix.Make("a", true, "1"), radix.Make("", false, "", leaf, leaf, nil), radix.Make("", true, "", leaf, radix.Make("b", true, ""), radix.Make("a", true, ""), radix.Make("", true, ""))}
	return append(l, radix.Make("ab", true, "2", l...), radix.Make("", false, "", append(l, l...)...))
}

// P1: every call ends, and none panics, for nodes that are no trees. All calls
// have the same pairs: those that the span has.
func TestNoTrees(t *testing.T) {
	for i, root := range noTrees() {
		for _, s := range spans("", "a", "ab", "b", "aa", "\xff") {
			l := span.Pairs(root, s)
			for _, p := range l {
				if !s.Has(p.Key) {
					t.Fatalf("%d: %s has %q", i, text(s), p)
				}
			}
			slices.Reverse(l)
			follow(t, "back", span.New(root, s, true), l)
			if n := span.Count(root, s); n != len(l) {
				t.Fatalf("%d: %s: Count: got %d, want %d", i, text(s), n, len(l))
			}
		}
		if n := span.Count(root, span.All()); n != radix.Len(root) {
			t.Errorf("%d: got %d of %d", i, n, radix.Len(root))
		}
	}
}

// P1: nodes at very many places, or very deep, where there is nothing in the
// span, or nothing at all. What is there comes soon.
func TestWide(t *testing.T) {
	var roots []*radix.Node
	for _, has := range []bool{false, true} {
		for _, label := range []string{"", "a"} {
			wide := radix.Make(label, has, "")
			for range 200 {
				wide = radix.Make(label, false, "", wide, wide, wide)
			}
			roots = append(roots, wide)
		}
		long := radix.Make("a", has, "")
		for range 20000 {
			long = radix.Make("a", false, "", long)
		}
		roots = append(roots, long, radix.Make("", false, "", shared(100, has)...))
	}
	for i, root := range roots {
		for _, s := range spans("", "a", "b", strings.Repeat("a", 100)+"b", strings.Repeat("a", 300)) {
			span.Count(root, s)
			for _, back := range []bool{false, true} {
				c := span.New(root, s, back)
				for range 3 {
					p, ok := c.Next()
					if ok && !s.Has(p.Key) || ok && i < 4 || !ok && p != (pair.Pair{}) {
						t.Fatalf("%d: got %.50q, %v", i, p.Key, ok)
					}
				}
				c.Copy().Next()
				c.Copy().Copy().Next()
			}
		}
	}
}
