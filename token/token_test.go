package token_test

import (
	"math"
	"testing"

	"quickset/api"
	"quickset/token"
)

// sizes are those of pools that the tests go through, both limits among them.
var sizes = []int{1, 2, 3, 10, 4095, 4096}

func pool(t *testing.T, n int) *token.Pool {
	t.Helper()
	p, err := token.New(n)
	if p == nil || err != api.OK {
		t.Fatalf("a pool of %d: got %v, %d", n, p, err)
	}
	return p
}

func take(t *testing.T, p *token.Pool) *token.Token {
	t.Helper()
	x, err := p.Take()
	if x == nil || err != api.OK {
		t.Fatalf("a token: got %v, %d", x, err)
	}
	return x
}

func end(t *testing.T, p *token.Pool, x *token.Token) {
	t.Helper()
	if err := p.End(x); err != api.OK {
		t.Fatalf("the end of %d: got %d", x.ID(), err)
	}
}

// takeAll takes every token of a pool from which none is taken.
func takeAll(t *testing.T, p *token.Pool) []*token.Token {
	t.Helper()
	var l []*token.Token
	for range p.Room() {
		l = append(l, take(t, p))
	}
	return l
}

// counts checks what a pool says about itself.
func counts(t *testing.T, p *token.Pool, out, room int) {
	t.Helper()
	if p.Out() != out || p.Room() != room {
		t.Errorf("got %d of %d, want %d of %d", p.Out(), p.Room(), out, room)
	}
}

// P4.1: the example of the document.
func TestExample(t *testing.T) {
	p := pool(t, 2)
	a, b := take(t, p), take(t, p)
	end(t, p, a)
	c := take(t, p)
	if a.ID() != 1 || b.ID() != 2 || c.ID() != 1 || c == a {
		t.Errorf("got %d, %d, %d", a.ID(), b.ID(), c.ID())
	}
}

// P4.1: a pool has 1 to the greatest number of ids.
func TestNewLimits(t *testing.T) {
	for _, n := range []int{0, -1, -4096, 4097, 8192, 1 << 20, 1 << 40, 1<<32 + 1, math.MinInt, math.MaxInt} {
		if p, err := token.New(n); p != nil || err != api.ErrArg {
			t.Errorf("%d: got %v, %d", n, p, err)
		}
	}
	for _, n := range sizes {
		counts(t, pool(t, n), 0, n)
	}
	if api.MaxTokens != 4096 {
		t.Error(api.MaxTokens)
	}
}

// P4.1: the ids come from 1 to n in increasing order, each once, and then none.
func TestTakeAll(t *testing.T) {
	for _, n := range sizes {
		p := pool(t, n)
		for i := 1; i <= n; i++ {
			x := take(t, p)
			if x.ID() != i || !x.Live() {
				t.Fatalf("pool of %d, token %d: got %d, %v", n, i, x.ID(), x.Live())
			}
			counts(t, p, i, n)
		}
		for range 2 {
			if x, err := p.Take(); x != nil || err != api.ErrFull {
				t.Errorf("pool of %d: got %v, %d", n, x, err)
			}
			counts(t, p, n, n)
		}
	}
}

// P4.1: an id comes again only after those that were in the queue before it.
func TestEndedIDsComeLast(t *testing.T) {
	p := pool(t, 4)
	a, b := take(t, p), take(t, p)
	end(t, p, b)
	end(t, p, a)
	for _, want := range []int{3, 4, 2, 1} {
		if got := take(t, p).ID(); got != want {
			t.Errorf("got %d, want %d", got, want)
		}
	}
}

// P4.1: ids are taken again in the order in which they were ended, in pools of
// every size and over several rounds.
func TestEndedIDsComeInOrder(t *testing.T) {
	for _, n := range sizes {
		p := pool(t, n)
		for round := range 3 {
			l := takeAll(t, p)
			var want []int
			for i := range n {
				x := l[(n-1-i+round)%n]
				want = append(want, x.ID())
				end(t, p, x)
				counts(t, p, n-1-i, n)
			}
			again := takeAll(t, p)
			for i, x := range again {
				if x.ID() != want[i] {
					t.Fatalf("pool of %d, round %d, token %d: got %d, want %d", n, round, i, x.ID(), want[i])
				}
			}
			for _, x := range again {
				end(t, p, x)
			}
		}
	}
}

// P4.1: takes and ends in a mixed sequence give what a queue gives.
func TestLikeAQueue(t *testing.T) {
	const n = 5
	p := pool(t, n)
	queue, out := []int{1, 2, 3, 4, 5}, []*token.Token(nil)
	step := uint32(1)
	for range 5000 {
		step = step*1664525 + 1013904223
		choice := int(step >> 16)
		if choice%2 == 0 {
			x, err := p.Take()
			if len(queue) == 0 {
				if x != nil || err != api.ErrFull {
					t.Fatalf("an empty queue: got %v, %d", x, err)
				}
				continue
			}
			if err != api.OK || x.ID() != queue[0] {
				t.Fatalf("got %d, %d, want %d", x.ID(), err, queue[0])
			}
			queue, out = queue[1:], append(out, x)
		} else if len(out) > 0 {
			i := choice / 2 % len(out)
			end(t, p, out[i])
			queue = append(queue, out[i].ID())
			out = append(out[:i], out[i+1:]...)
		}
		counts(t, p, len(out), n)
	}
}

// P4.1: an end makes room in a pool of one.
func TestPoolOfOne(t *testing.T) {
	p := pool(t, 1)
	for range 3 {
		x := take(t, p)
		if _, err := p.Take(); x.ID() != 1 || err != api.ErrFull {
			t.Errorf("got %d, %d", x.ID(), err)
		}
		end(t, p, x)
		counts(t, p, 0, 1)
	}
}

// P4.1: an ended token is not live, keeps its id and cannot end again.
func TestEnded(t *testing.T) {
	p := pool(t, 3)
	a, b := take(t, p), take(t, p)
	end(t, p, a)
	for range 2 {
		if err := p.End(a); err != api.ErrNone || a.Live() || a.ID() != 1 {
			t.Errorf("got %d, %v, %d", err, a.Live(), a.ID())
		}
		counts(t, p, 1, 3)
	}
	if !b.Live() {
		t.Error("the other token has ended with it")
	}
	for _, want := range []int{3, 1} {
		if got := take(t, p).ID(); got != want {
			t.Errorf("got %d, want %d", got, want)
		}
	}
	if x, err := p.Take(); x != nil || err != api.ErrFull {
		t.Errorf("the id was appended twice: got %v, %d", x, err)
	}
}

// P4.1: an ended token stays so when its id is taken again, and ends nothing.
func TestEndedAndTakenAgain(t *testing.T) {
	p := pool(t, 1)
	old := take(t, p)
	end(t, p, old)
	x := take(t, p)
	if x == old || x.ID() != old.ID() || !x.Live() || old.Live() {
		t.Errorf("got %v, %d, %v, %v", x == old, x.ID(), x.Live(), old.Live())
	}
	if err := p.End(old); err != api.ErrNone || !x.Live() {
		t.Errorf("got %d, %v", err, x.Live())
	}
	counts(t, p, 1, 1)
	end(t, p, x)
	if x.Live() {
		t.Error("the token is live after its end")
	}
}

// P4.1: a token of another pool is refused, and neither pool is changed, though
// both have a token with that id.
func TestOtherPool(t *testing.T) {
	p, q := pool(t, 2), pool(t, 2)
	a, b := take(t, p), take(t, q)
	if err := p.End(b); err != api.ErrNone || !a.Live() || !b.Live() {
		t.Errorf("got %d, %v, %v", err, a.Live(), b.Live())
	}
	counts(t, p, 1, 2)
	counts(t, q, 1, 2)
	if x := take(t, p); x.ID() != 2 {
		t.Errorf("got %d", x.ID())
	}
	if x, err := p.Take(); x != nil || err != api.ErrFull {
		t.Errorf("the id of the other pool was appended: got %v, %d", x, err)
	}
	end(t, q, b)
	if err := p.End(b); err != api.ErrNone {
		t.Errorf("ended and of another pool: got %d", err)
	}
	counts(t, p, 2, 2)
	counts(t, q, 0, 2)
}

// P4.1: no token is ErrNone, with and without tokens that are out.
func TestEndNil(t *testing.T) {
	p := pool(t, 2)
	for out := range 3 {
		if err := p.End(nil); err != api.ErrNone {
			t.Errorf("got %d", err)
		}
		counts(t, p, out, 2)
		p.Take()
	}
}

// P4.1: the nil pool and the nil token.
func TestNilObjects(t *testing.T) {
	var p *token.Pool
	var x *token.Token
	if got, err := p.Take(); got != nil || err != api.ErrNone {
		t.Errorf("Take: got %v, %d", got, err)
	}
	live := take(t, pool(t, 1))
	for _, y := range []*token.Token{nil, live} {
		if err := p.End(y); err != api.ErrNone {
			t.Errorf("End: got %d", err)
		}
	}
	if !live.Live() {
		t.Error("the nil pool has ended a token")
	}
	counts(t, p, 0, 0)
	if x.Live() || x.ID() != 0 {
		t.Errorf("got %v, %d", x.Live(), x.ID())
	}
}

// P2: pools know nothing of each other.
func TestPoolsAreApart(t *testing.T) {
	p, q := pool(t, 3), pool(t, 2)
	a, b, c := take(t, p), take(t, q), take(t, p)
	if a.ID() != 1 || b.ID() != 1 || c.ID() != 2 {
		t.Errorf("got %d, %d, %d", a.ID(), b.ID(), c.ID())
	}
	end(t, p, a)
	counts(t, p, 1, 3)
	counts(t, q, 1, 2)
	if !b.Live() {
		t.Error("the other pool's token has ended")
	}
}
