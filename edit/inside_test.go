package edit

import (
	"testing"

	"quickset/api"
	"quickset/pair"
	"quickset/sip"
	"quickset/token"
	"quickset/tree"
)

// owned reports whether the root of the present contents is the token's.
func (e *Edit) owned() bool {
	return e.now.Champ().Owned(e.by) || e.now.Radix().Owned(e.by)
}

// begun returns an edit with one pair of a tree of that kind.
func begun(t *testing.T, kind int) *Edit {
	t.Helper()
	pool, _ := token.New(1)
	x, _ := tree.New(kind, sip.Full(sip.Key{K0: 7}))
	e, err := Begin(pool, x)
	if err != api.OK || e.owned() || e.Put(pair.Pair{Key: "a"}) != api.OK {
		t.Fatalf("%d: got %d, or a root that it owns", kind, err)
	}
	return e
}

// P16.1: an edit changes in place what it owns: its root is one node from the
// first change on. P16.2: after Snap it is another one.
func TestInPlace(t *testing.T) {
	for kind := range 2 {
		e := begun(t, kind)
		for range 3 {
			before := e.now
			if !e.owned() {
				t.Fatalf("%d: not made with the token", kind)
			}
			if a, b, c := e.Put(pair.Pair{Key: "b"}), e.Put(pair.Pair{Key: "c"}), e.Drop("b"); a != api.OK || b != api.OK || c != api.OK {
				t.Fatalf("%d: got %d, %d, %d", kind, a, b, c)
			}
			if !tree.One(e.now, before) {
				t.Fatalf("%d: not changed in place", kind)
			}
			x, err := e.Snap()
			if err != api.OK || e.owned() || !tree.One(x, before) {
				t.Fatalf("%d: got %d, or owned", kind, err)
			}
			if err := e.Put(pair.Pair{Key: "d", Value: "d"}); err != api.OK || e.Drop("d") != api.OK || tree.One(e.now, x) {
				t.Fatalf("%d: got %d, or the snapshot itself", kind, err)
			}
		}
	}
}

// P16.2 and P16.3: each token that an edit has had ends with Snap, with Freeze,
// and with Run, and is not live again.
func TestTokensEnd(t *testing.T) {
	for kind := range 2 {
		e := begun(t, kind)
		first := e.by
		if _, err := e.Snap(); err != api.OK || first.Live() || !e.by.Live() || first == e.by || first.ID() != e.by.ID() {
			t.Fatalf("%d: Snap: got %d, or the first token is live", kind, err)
		}
		second := e.by
		x, err := e.Freeze()
		if err != api.OK || second.Live() {
			t.Fatalf("%d: Freeze: got %d, or the token is live", kind, err)
		}
		if y, err := Run(e.pool, x, []pair.Pair{{Key: "z"}}, nil); err != api.OK || y.Len() != 2 || e.pool.Out() != 0 {
			t.Fatalf("%d: Run: got %d", kind, err)
		}
		if again, err := e.pool.Take(); err != api.OK || e.owned() || !again.Live() || first.Live() || second.Live() {
			t.Fatalf("%d: a token is live again", kind)
		}
	}
}
