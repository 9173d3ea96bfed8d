package twig_test

import (
	"slices"
	"strings"
	"testing"

	"quickset/twig"
)

// words are all strings of up to three of some bytes: prefixes of one another,
// the empty string, strings of bytes ff only and strings that end in them, and
// bytes that are no text.
func words() []string {
	l := []string{""}
	for from := 0; len(l[from]) < 3; from++ {
		for _, b := range []byte{0x00, 0x61, 0x62, 0x7f, 0x80, 0xfe, 0xff} {
			l = append(l, l[from]+string([]byte{b}))
		}
	}
	return l
}

// begins is the definition of a prefix, byte by byte.
func begins(s, with string) bool {
	if len(with) > len(s) {
		return false
	}
	for i := range len(with) {
		if s[i] != with[i] {
			return false
		}
	}
	return true
}

// less is the definition of layer 3's order, byte by byte.
func less(a, b string) bool {
	for i := range min(len(a), len(b)) {
		if a[i] != b[i] {
			return a[i] < b[i]
		}
	}
	return len(a) < len(b)
}

// P10.1: the examples of the document.
func TestExamples(t *testing.T) {
	if got := twig.Common("abc", "abd"); got != 2 {
		t.Errorf("Common: got %d", got)
	}
	if got, ok := twig.Above("\x61\xff"); got != "\x62" || !ok {
		t.Errorf("Above: got %q, %v", got, ok)
	}
}

// P10.1: what is common is a prefix of both, and one byte more is not.
func TestCommon(t *testing.T) {
	for _, a := range words() {
		for _, b := range words() {
			want := 0
			for i := 1; i <= len(a) && begins(b, a[:i]); i++ {
				want = i
			}
			if got := twig.Common(a, b); got != want {
				t.Fatalf("%q and %q: got %d, want %d", a, b, got, want)
			}
		}
	}
}

// P10.1: the length is counted in bytes, also within a character, and strings
// may be long.
func TestCommonBytes(t *testing.T) {
	long := strings.Repeat("a\xff", 50000)
	for _, c := range []struct {
		a, b string
		want int
	}{
		{"\u00e9", "\u00e8", 1},
		{"x\u20ac", "x\u20ad", 3},
		{"\u20ac", "\u20ac", 3},
		{"\xff", "\xfe", 0},
		{"\ufffd", "\xff", 0},
		{"ab", "abc", 2},
		{"abc", "ab", 2},
		{"ba", "ca", 0},
		{"abcabc", "abdabc", 2},
		{long, long, 100000},
		{long + "x", long + "y", 100000},
		{long, long[1:], 0},
		{long, "", 0},
	} {
		if got := twig.Common(c.a, c.b); got != c.want {
			t.Errorf("got %d, want %d", got, c.want)
		}
	}
}

// P10.1: Begins, and Cut with what follows, or nothing and false.
func TestBeginsAndCut(t *testing.T) {
	for _, s := range words() {
		for _, with := range words() {
			want, rest := begins(s, with), ""
			if want {
				rest = s[len(with):]
			}
			if got := twig.Begins(s, with); got != want {
				t.Fatalf("%q begins with %q: got %v", s, with, got)
			}
			if got, ok := twig.Cut(s, with); got != rest || ok != want {
				t.Fatalf("%q cut by %q: got %q, %v", s, with, got, ok)
			}
		}
	}
}

// P10.1: the edges of Cut: all of it, nothing of it, only the first of equal
// parts, not the end, and not in another case.
func TestCutEdges(t *testing.T) {
	for _, c := range []struct {
		s, with, rest string
		ok            bool
	}{
		{"abc", "ab", "c", true},
		{"abc", "abc", "", true},
		{"abc", "", "abc", true},
		{"", "", "", true},
		{"", "a", "", false},
		{"abc", "abcd", "", false},
		{"abc", "bc", "", false},
		{"abc", "AB", "", false},
		{"aaa", "a", "aa", true},
		{"\u00e9", "\xc3", "\xa9", true},
		{"\xff\xff", "\xff", "\xff", true},
		{"\xff", "\xfe", "", false},
	} {
		if got, ok := twig.Cut(c.s, c.with); got != c.rest || ok != c.ok {
			t.Errorf("%q cut by %q: got %q, %v", c.s, c.with, got, ok)
		}
	}
}

// P10.1: what is less than the result is exactly what is less than s or begins
// with it; if there is no result, that is everything.
func TestAboveIsTheLeast(t *testing.T) {
	tail := strings.Repeat("\xff", 9)
	for _, s := range words() {
		up, ok := twig.Above(s)
		if !ok && up != "" {
			t.Errorf("%q: got %q, false", s, up)
		}
		for _, w := range append(words(), s+tail, s+tail+"\xff", s+"\x00", up+"\x00") {
			if got := !ok || less(w, up); got != (less(w, s) || begins(w, s)) {
				t.Fatalf("above %q: got %q, %v, but there is %q", s, up, ok, w)
			}
		}
	}
}

// P10.1: none for the empty string and for bytes ff only, however many.
func TestAboveNone(t *testing.T) {
	for _, n := range []int{0, 1, 2, 3, 8, 256, 100000} {
		if got, ok := twig.Above(strings.Repeat("\xff", n)); got != "" || ok {
			t.Errorf("%d bytes: got %q, %v", n, got, ok)
		}
	}
}

// P10.1: every other last byte is incremented, as a byte and not as a character,
// with nothing, something or bytes ff ahead of it, and bytes ff behind it cut.
func TestAboveEveryByte(t *testing.T) {
	for b := range 255 {
		for _, front := range []string{"", "a", "\xff", "a\xff", "\xff\xff", "\u00e9", "\x00"} {
			for _, n := range []int{0, 1, 2, 1000} {
				s := front + string([]byte{byte(b)}) + strings.Repeat("\xff", n)
				want := front + string([]byte{byte(b) + 1})
				if got, ok := twig.Above(s); got != want || !ok {
					t.Fatalf("%q: got %q, %v, want %q", s, got, ok, want)
				}
			}
		}
	}
}

// P10.1: at least from, less than to; nothing is between the wrong way round.
func TestBetween(t *testing.T) {
	bounds := []string{"", "\x00", "a", "a\x00", "a\xff", "aa", "b", "\x7f", "\x80", "\x80\xff", "\xff", "\xff\xff"}
	for _, s := range words() {
		for _, from := range bounds {
			for _, to := range bounds {
				if got := twig.Between(s, from, to); got != (!less(s, from) && less(s, to)) {
					t.Fatalf("%q between %q and %q: got %v", s, from, to, got)
				}
			}
		}
	}
}

// P10.1: both bounds themselves, and bounds without room between them.
func TestBetweenBounds(t *testing.T) {
	for _, c := range []struct {
		s, from, to string
		want        bool
	}{
		{"b", "b", "c", true},
		{"c", "b", "c", false},
		{"b", "b", "b", false},
		{"b", "c", "a", false},
		{"", "", "", false},
		{"", "", "\x00", true},
		{"a", "", "", false},
		{"b\xff", "b", "c", true},
		{"\x80", "a", "\xff", true},
	} {
		if got := twig.Between(c.s, c.from, c.to); got != c.want {
			t.Errorf("%q between %q and %q: got %v", c.s, c.from, c.to, got)
		}
	}
}

// P10.1: the longest element with which s begins, the first one of equal length,
// wherever it is in the list.
func TestLongest(t *testing.T) {
	for _, c := range []struct {
		l    []string
		s    string
		want int
		ok   bool
	}{
		{nil, "", 0, false},
		{nil, "a", 0, false},
		{[]string{}, "a", 0, false},
		{[]string{"b"}, "a", 0, false},
		{[]string{"c", "b"}, "a", 0, false},
		{[]string{"ab"}, "a", 0, false},
		{[]string{"a"}, "", 0, false},
		{[]string{""}, "", 0, true},
		{[]string{""}, "a", 0, true},
		{[]string{"b", ""}, "a", 1, true},
		{[]string{"b", "", ""}, "a", 1, true},
		{[]string{"", "a"}, "a", 1, true},
		{[]string{"a", ""}, "a", 0, true},
		{[]string{"b", "a", "ab", "ab", "abd"}, "abc", 2, true},
		{[]string{"abc", "ab", "a"}, "abc", 0, true},
		{[]string{"a", "ab", "abc", "abcd"}, "abc", 2, true},
		{[]string{"abcd", "a", "b", "a", ""}, "abc", 1, true},
		{[]string{"xxxx", "a"}, "abc", 1, true},
		{[]string{"\xfe", "\xff", "\xff\xff", "\xff\xff\xff"}, "\xff\xff", 2, true},
		{[]string{"\ufffd", "\xff"}, "\xff", 1, true},
		{[]string{"\xc3"}, "\u00e9", 0, true},
	} {
		if got, ok := twig.Longest(c.l, c.s); got != c.want || ok != c.ok {
			t.Errorf("%q of %q: got %d, %v, want %d, %v", c.s, c.l, got, ok, c.want, c.ok)
		}
	}
}

// P10.1: the same for all strings against lists of words in several orders.
func TestLongestOfMany(t *testing.T) {
	back := words()
	slices.Reverse(back)
	for _, l := range [][]string{words(), back, append(words(), words()...), back[:len(back)-1]} {
		for _, s := range words() {
			want, ok := 0, false
			for n := len(s); n >= 0 && !ok; n-- {
				want = slices.Index(l, s[:n])
				ok = want >= 0
			}
			if !ok {
				want = 0
			}
			if got, is := twig.Longest(l, s); got != want || is != ok {
				t.Fatalf("%q: got %d, %v, want %d, %v", s, got, is, want, ok)
			}
		}
	}
}

// Memory: Longest leaves its list, and what is behind the list's end is no part
// of it.
func TestListStays(t *testing.T) {
	l := []string{"b", "a", "ab", "abc"}
	if got, ok := twig.Longest(l[:2], "abc"); got != 1 || !ok {
		t.Errorf("got %d, %v", got, ok)
	}
	twig.Longest(l, "abc")
	if !slices.Equal(l, []string{"b", "a", "ab", "abc"}) {
		t.Errorf("got %q", l)
	}
}
