package pair_test

import (
	"slices"
	"sort"
	"strings"
	"testing"

	"quickset/api"
	"quickset/pair"
)

// ordered are keys in the order of their bytes: prefixes ahead of what they
// begin, bytes that are no text, and bytes that would come first if signed.
var ordered = []string{"", "\x00", "\x00\x00", "\x00a", "0", "10", "2", "A", "B", "Z", "a", "a\x00", "aa", "aab", "ab", "b", "ba", "z", "z\xff", "\x7f", "\x80", "\xc3\xa9", "\xff", "\xff\x00", "\xff\xff"}

// pairs makes a list of keys, each with a value of its own.
func pairs(keys ...string) []pair.Pair {
	var l []pair.Pair
	for _, k := range keys {
		l = append(l, pair.Pair{Key: k, Value: "<" + k + ">"})
	}
	return l
}

// within lays a list into the midst of a greater one, whose other pairs are in
// front of it and in its spare room.
func within(l []pair.Pair) (inner, outer []pair.Pair) {
	outer = slices.Concat(pairs("front"), l, pairs("spare", "room", "behind"))
	return outer[1 : 1+len(l)], outer
}

// subsets gives the rising lists of some of the first n ordered keys.
func subsets(n int, do func(l []pair.Pair)) {
	for set := range 1 << n {
		var l []pair.Pair
		for i, k := range ordered[:n] {
			if set>>i&1 == 1 {
				l = append(l, pairs(k)...)
			}
		}
		do(l)
	}
}

// fill overwrites a slice with all its spare room.
func fill(l []pair.Pair) {
	l = l[:cap(l)]
	for i := range l {
		l[i] = pair.Pair{Key: "over", Value: "written"}
	}
}

// calls are those that return lists, each with one of its own arguments.
var calls = []struct {
	name string
	do   func(l []pair.Pair) []pair.Pair
}{
	{"Put of a new key", func(l []pair.Pair) []pair.Pair { return pair.Put(l, pair.Pair{Key: "bb", Value: "new"}) }},
	{"Put ahead of all", func(l []pair.Pair) []pair.Pair { return pair.Put(l, pair.Pair{Key: "", Value: "new"}) }},
	{"Put behind all", func(l []pair.Pair) []pair.Pair { return pair.Put(l, pair.Pair{Key: "zz", Value: "new"}) }},
	{"Put of a present key", func(l []pair.Pair) []pair.Pair { return pair.Put(l, pair.Pair{Key: "b", Value: "new"}) }},
	{"Put of a present pair", func(l []pair.Pair) []pair.Pair { return pair.Put(l, pairs("b")[0]) }},
	{"Drop of a present key", func(l []pair.Pair) []pair.Pair { return pair.Drop(l, "b") }},
	{"Drop of the first key", func(l []pair.Pair) []pair.Pair { return pair.Drop(l, "a") }},
	{"Drop of the last key", func(l []pair.Pair) []pair.Pair { return pair.Drop(l, "d") }},
	{"Drop of an absent key", func(l []pair.Pair) []pair.Pair { return pair.Drop(l, "bb") }},
	{"Sorted", pair.Sorted},
}

// P3.1: both lengths at their limits and one byte more, the key's error first.
func TestRightLimits(t *testing.T) {
	for _, c := range []struct {
		key, value int
		want       api.Errno
	}{
		{0, 0, api.OK},
		{1, 0, api.OK},
		{0, 1, api.OK},
		{255, 4095, api.OK},
		{256, 4096, api.OK},
		{257, 0, api.ErrKey},
		{257, 4096, api.ErrKey},
		{0, 4097, api.ErrValue},
		{256, 4097, api.ErrValue},
		{257, 4097, api.ErrKey},
		{4096, 0, api.ErrKey},
		{0, 256, api.OK},
		{0, 257, api.OK},
		{1 << 20, 1 << 20, api.ErrKey},
		{0, 1 << 20, api.ErrValue},
	} {
		if got := pair.Right(strings.Repeat("k", c.key), strings.Repeat("v", c.value)); got != c.want {
			t.Errorf("%d and %d bytes: got %d, want %d", c.key, c.value, got, c.want)
		}
	}
}

// P3.1: the lengths are those in bytes, whatever text the bytes may be.
func TestRightCountsBytes(t *testing.T) {
	for _, c := range []struct {
		unit string
		size int
	}{{"\u00e9", 2}, {"\u20ac\x00", 4}, {"\xff", 1}, {"\x00", 1}} {
		key, value := strings.Repeat(c.unit, 256/c.size), strings.Repeat(c.unit, 4096/c.size)
		if got := pair.Right(key, value); got != api.OK {
			t.Errorf("%q: got %d", c.unit, got)
		}
		if got := pair.Right(key+c.unit, value); got != api.ErrKey {
			t.Errorf("%q, a longer key: got %d", c.unit, got)
		}
		if got := pair.Right(key, value+c.unit); got != api.ErrValue {
			t.Errorf("%q, a longer value: got %d", c.unit, got)
		}
	}
}

// P3.1 and P3.2: two keys rise exactly if they differ and come in the order of
// their bytes.
func TestRisesTwo(t *testing.T) {
	for i, a := range ordered {
		for j, b := range ordered {
			if got := pair.Rises(pairs(a, b)); got != (i < j) {
				t.Errorf("%q, %q: got %v", a, b, got)
			}
		}
	}
}

// P3.2: lists without two keys rise.
func TestRisesShort(t *testing.T) {
	if !pair.Rises(nil) || !pair.Rises([]pair.Pair{}) || !pair.Rises(pairs("")) || !pair.Rises(pairs("z")) {
		t.Error("a list without two keys does not rise")
	}
}

// P3.2: one place where a list does not rise is enough, wherever it is.
func TestRisesEachPlace(t *testing.T) {
	if !pair.Rises(pairs(ordered...)) {
		t.Error("the ordered keys do not rise")
	}
	for i := 1; i < len(ordered); i++ {
		turned := slices.Clone(ordered)
		turned[i-1], turned[i] = turned[i], turned[i-1]
		if pair.Rises(pairs(turned...)) {
			t.Errorf("%q rises", turned)
		}
		if twice := slices.Insert(slices.Clone(ordered), i, ordered[i]); pair.Rises(pairs(twice...)) {
			t.Errorf("%q rises", twice)
		}
	}
}

// P3.2: values have no part in it, not even where the keys are equal.
func TestRisesIgnoresValues(t *testing.T) {
	if !pair.Rises([]pair.Pair{{Key: "a", Value: "2"}, {Key: "b", Value: "1"}}) {
		t.Error("falling values")
	}
	if pair.Rises([]pair.Pair{{Key: "a", Value: "1"}, {Key: "a", Value: "2"}}) {
		t.Error("equal keys")
	}
}

// P3.2: what is behind the end of a list is no part of it.
func TestRisesWithin(t *testing.T) {
	if l, _ := within(pairs("x", "y")); !pair.Rises(l) {
		t.Error("the spare room counts")
	}
}

// P3.2: the index is the number of lesser keys, for every key and every list of
// some keys.
func TestFind(t *testing.T) {
	subsets(9, func(l []pair.Pair) {
		for _, key := range append(ordered[:10:10], "\xff") {
			want := 0
			for want < len(l) && l[want].Key < key {
				want++
			}
			is := want < len(l) && l[want].Key == key
			if i, ok := pair.Find(l, key); i != want || ok != is {
				t.Errorf("%q in %q: got %d, %v, want %d, %v", key, l, i, ok, want, is)
			}
		}
	})
}

// P3.1 and P3.2: keys of all bytes are found in their order, and where they are
// missing, their place is found.
func TestFindOrder(t *testing.T) {
	all := pairs(ordered...)
	for want, key := range ordered {
		if i, ok := pair.Find(all, key); i != want || !ok {
			t.Errorf("%q: got %d, %v, want %d", key, i, ok, want)
		}
		rest := slices.Delete(slices.Clone(all), want, want+1)
		if i, ok := pair.Find(rest, key); i != want || ok {
			t.Errorf("%q is missing: got %d, %v, want %d", key, i, ok, want)
		}
	}
}

// P3.2: in an empty list every key is behind the end.
func TestFindInNothing(t *testing.T) {
	for _, l := range [][]pair.Pair{nil, {}} {
		for _, key := range []string{"", "a"} {
			if i, ok := pair.Find(l, key); i != 0 || ok {
				t.Errorf("%q: got %d, %v", key, i, ok)
			}
		}
	}
}

// P3.2: a pair in the spare room is not found.
func TestFindWithin(t *testing.T) {
	l, _ := within(pairs("a", "b"))
	if i, ok := pair.Find(l, "spare"); i != 2 || ok {
		t.Errorf("got %d, %v", i, ok)
	}
}

// P3.2: every key put into every list of some keys comes to its place, and
// takes the place of a pair with that key.
func TestPut(t *testing.T) {
	subsets(9, func(l []pair.Pair) {
		for _, key := range ordered[:10] {
			p := pair.Pair{Key: key, Value: "put"}
			want := []pair.Pair{p}
			for _, q := range l {
				if q.Key != key {
					want = append(want, q)
				}
			}
			sort.Slice(want, func(i, j int) bool { return want[i].Key < want[j].Key })
			if got := pair.Put(l, p); !slices.Equal(got, want) {
				t.Errorf("%q into %q: got %q", key, l, got)
			}
		}
	})
}

// P3.2: an empty list, an empty key and an empty value are nothing special.
func TestPutEmpty(t *testing.T) {
	for _, l := range [][]pair.Pair{nil, {}} {
		if got := pair.Put(l, pair.Pair{}); !slices.Equal(got, []pair.Pair{{}}) {
			t.Errorf("got %q", got)
		}
	}
	if got := pair.Put(pairs("", "a"), pair.Pair{}); !slices.Equal(got, []pair.Pair{{}, pairs("a")[0]}) {
		t.Errorf("the empty pair into a list: got %q", got)
	}
}

// P3.2: lengths are no matter here; they are for Right alone.
func TestPutLong(t *testing.T) {
	p := pair.Pair{Key: strings.Repeat("k", 257), Value: strings.Repeat("v", 4097)}
	if got := pair.Put(nil, p); !slices.Equal(got, []pair.Pair{p}) {
		t.Errorf("got %d pairs", len(got))
	}
}

// P3.2: every key dropped from every list of some keys.
func TestDrop(t *testing.T) {
	subsets(9, func(l []pair.Pair) {
		for _, key := range ordered[:10] {
			var want []pair.Pair
			for _, q := range l {
				if q.Key != key {
					want = append(want, q)
				}
			}
			if got := pair.Drop(l, key); !slices.Equal(got, want) {
				t.Errorf("%q from %q: got %q", key, l, got)
			}
		}
	})
}

// P3.2: from an empty list nothing can be dropped.
func TestDropFromNothing(t *testing.T) {
	for _, l := range [][]pair.Pair{nil, {}} {
		if got := pair.Drop(l, ""); len(got) != 0 {
			t.Errorf("got %q", got)
		}
	}
}

// P3.2: the example of the document.
func TestSortedExample(t *testing.T) {
	got := pair.Sorted([]pair.Pair{{Key: "b", Value: "1"}, {Key: "a", Value: "2"}, {Key: "b", Value: "3"}})
	if !slices.Equal(got, []pair.Pair{{Key: "a", Value: "2"}, {Key: "b", Value: "3"}}) {
		t.Errorf("got %q", got)
	}
}

// P3.1 and P3.2: the order is that of the bytes.
func TestSortedOrder(t *testing.T) {
	want := pairs(ordered...)
	back := slices.Clone(want)
	slices.Reverse(back)
	var mixed []pair.Pair
	for i := range want {
		mixed = append(mixed, want[i*7%len(want)])
	}
	for _, l := range [][]pair.Pair{want, back, mixed} {
		if got := pair.Sorted(l); !slices.Equal(got, want) {
			t.Errorf("%q: got %q", l, got)
		}
	}
}

// P3.2: of a key that comes often, the value that is last in the list counts,
// be it greater, less or empty, and however long the list is.
func TestSortedTakesLast(t *testing.T) {
	for _, values := range [][]string{{"1", "2"}, {"2", "1"}, {"1", ""}, {"", "1"}, {"1", "1"}, {"3", "1", "2"}, {"1", "3", "2", ""}} {
		var l []pair.Pair
		for _, v := range values {
			l = append(l, pair.Pair{Key: "k", Value: v}, pair.Pair{Key: "", Value: "-" + v})
		}
		last := values[len(values)-1]
		if got := pair.Sorted(l); !slices.Equal(got, []pair.Pair{{Value: "-" + last}, {Key: "k", Value: last}}) {
			t.Errorf("%q: got %q", values, got)
		}
	}
}

// P3.2: the same of lists that are too long to be sorted by insertion.
func TestSortedLong(t *testing.T) {
	for _, n := range []int{13, 50, 1000, 20000} {
		var l []pair.Pair
		last := map[string]string{}
		for i := range n {
			p := pair.Pair{Key: ordered[(i*i*7+i)%len(ordered)], Value: string(rune('0' + i))}
			l = append(l, p)
			last[p.Key] = p.Value
		}
		var want []pair.Pair
		for _, k := range ordered {
			if v, ok := last[k]; ok {
				want = append(want, pair.Pair{Key: k, Value: v})
			}
		}
		if got := pair.Sorted(l); !slices.Equal(got, want) {
			t.Errorf("%d pairs: got %q, want %q", n, got, want)
		}
	}
}

// P3.2: lists without pairs.
func TestSortedNothing(t *testing.T) {
	if len(pair.Sorted(nil)) != 0 || len(pair.Sorted([]pair.Pair{})) != 0 {
		t.Error("there is a pair in it")
	}
}

// P3.2: equal means pair for pair, in any lists, sorted or not.
func TestSame(t *testing.T) {
	lists := [][]pair.Pair{
		nil,
		{{}},
		{{}, {}},
		{{Key: "a"}},
		{{Value: "a"}},
		{{Key: "a", Value: "1"}},
		{{Key: "a", Value: "2"}},
		{{Key: "b", Value: "1"}},
		{{Key: "a1"}},
		{{Key: "a", Value: "1"}, {Key: "b", Value: "2"}},
		{{Key: "b", Value: "2"}, {Key: "a", Value: "1"}},
		{{Key: "a", Value: "1"}, {Key: "a", Value: "1"}},
		{{Key: "a", Value: "1"}, {Key: "b", Value: "1"}},
		{{Key: "a", Value: "1"}, {Key: "b", Value: "2"}, {}},
	}
	for i, a := range lists {
		for j, b := range lists {
			if got := pair.Same(a, slices.Clone(b)); got != (i == j) {
				t.Errorf("%q and %q: got %v", a, b, got)
			}
		}
	}
}

// P3.2: a list without pairs is nil or empty, and what is behind a list's end
// is no part of it.
func TestSameIgnoresRoom(t *testing.T) {
	if !pair.Same(nil, []pair.Pair{}) || !pair.Same([]pair.Pair{}, nil) || !pair.Same(nil, nil) {
		t.Error("nil is not like empty")
	}
	l, _ := within(pairs("a", "b"))
	if !pair.Same(l, pairs("a", "b")) || !pair.Same(l[:0], nil) {
		t.Error("the spare room counts")
	}
}

// Memory: no call changes its list, nor what is in front of it or in its spare
// room.
func TestListsStay(t *testing.T) {
	for _, c := range calls {
		l, outer := within(pairs("a", "b", "c", "d"))
		before := slices.Clone(outer)
		c.do(l)
		if !slices.Equal(outer, before) {
			t.Errorf("%s: got %q", c.name, outer)
		}
	}
	l, outer := within(pairs("d", "b", "a", "b"))
	before := slices.Clone(outer)
	pair.Sorted(l)
	pair.Rises(l)
	pair.Find(l, "b")
	pair.Same(l, l[:2])
	if !slices.Equal(outer, before) {
		t.Errorf("got %q", outer)
	}
}

// Memory: a result is not the list that was given, and not an earlier result:
// each may be overwritten, with its spare room, and leave the others.
func TestResultsAreNew(t *testing.T) {
	for _, c := range calls {
		l, outer := within(pairs("a", "b", "c", "d"))
		first, second := c.do(l), c.do(l)
		want, before := slices.Clone(first), slices.Clone(outer)
		fill(second)
		if !slices.Equal(first, want) || !slices.Equal(outer, before) {
			t.Errorf("%s: the second result was overwritten: got %q, %q", c.name, first, outer)
		}
		fill(outer)
		if !slices.Equal(first, want) {
			t.Errorf("%s: the list was overwritten: got %q", c.name, first)
		}
	}
}

// Memory: results without pairs do not hand out the room of the list either.
func TestEmptyResultsAreNew(t *testing.T) {
	for _, c := range []struct {
		name string
		do   func(l []pair.Pair) []pair.Pair
		from []pair.Pair
	}{
		{"Drop of the only key", func(l []pair.Pair) []pair.Pair { return pair.Drop(l, "a") }, pairs("a")},
		{"Drop from nothing", func(l []pair.Pair) []pair.Pair { return pair.Drop(l, "a") }, nil},
		{"Sorted of nothing", pair.Sorted, nil},
	} {
		l, outer := within(c.from)
		before := slices.Clone(outer)
		got := c.do(l)
		fill(got)
		if len(got) != 0 || !slices.Equal(outer, before) {
			t.Errorf("%s: got %q, and %q", c.name, got, outer)
		}
	}
}

// P1 and P2: lists that do not rise are searched to an end too, with the same
// result each time and an index that the list has room for.
func TestListsThatDoNotRise(t *testing.T) {
	for _, keys := range [][]string{{"b", "a"}, {"a", "a"}, {"c", "b", "a"}, {"a", "a", "a", "a"}, {"b", "", "b", ""}, {"a", "z", "b", "y", "c", "x"}} {
		l := pairs(keys...)
		for _, key := range append([]string{"", "\xff"}, keys...) {
			i, ok := pair.Find(l, key)
			if i < 0 || i > len(l) || ok && l[i].Key != key {
				t.Errorf("%q in %q: got %d, %v", key, l, i, ok)
			}
			if j, again := pair.Find(l, key); j != i || again != ok {
				t.Errorf("%q in %q: got %d, %v, then %d, %v", key, l, i, ok, j, again)
			}
			p := pair.Pair{Key: key, Value: "put"}
			if got := pair.Put(l, p); !slices.Contains(got, p) || !pair.Same(got, pair.Put(l, p)) {
				t.Errorf("%q into %q: got %q", key, l, got)
			}
			if got := pair.Drop(l, key); !pair.Same(got, pair.Drop(l, key)) {
				t.Errorf("%q from %q: got %q", key, l, got)
			}
		}
	}
}

// Values: pairs are compared by ==, and a changed one changes no list.
func TestPairsAreValues(t *testing.T) {
	p := pair.Pair{Key: "a", Value: "1"}
	l := pair.Put(nil, p)
	p.Value = "2"
	if l[0] != (pair.Pair{Key: "a", Value: "1"}) {
		t.Errorf("got %q", l)
	}
}
