package gauge

import (
	"quickset/node"
	"quickset/pair"
	"quickset/sip"
	"quickset/walk"
)

// The ops.
const (
	Count   = 0
	Keys    = 1
	Values  = 2
	Longest = 3
	Widest  = 4
	Mixed   = 5
)

// Fold returns what an op computes over all pairs of a trie, or false if there
// is no such op.
func Fold(op int, root *node.Node) (uint64, bool) {
	with := effect(op)
	if with == nil {
		return 0, false
	}
	var sum uint64
	for p := range walk.All(root) {
		sum = with(sum, p)
	}
	return sum, true
}

// Name returns the name of an op, the empty string if there is no such op.
func Name(op int) string {
	switch op {
	case Count:
		return "count"
	case Keys:
		return "keys"
	case Values:
		return "values"
	case Longest:
		return "longest"
	case Widest:
		return "widest"
	case Mixed:
		return "mixed"
	}
	return ""
}

// effect returns what an op makes of its result so far and one more pair, nil
// if there is no such op.
func effect(op int) func(uint64, pair.Pair) uint64 {
	switch op {
	case Count:
		return func(sum uint64, p pair.Pair) uint64 { return sum + 1 }
	case Keys:
		return func(sum uint64, p pair.Pair) uint64 { return sum + uint64(len(p.Key)) }
	case Values:
		return func(sum uint64, p pair.Pair) uint64 { return sum + uint64(len(p.Value)) }
	case Longest:
		return func(most uint64, p pair.Pair) uint64 { return max(most, uint64(len(p.Key))) }
	case Widest:
		return func(most uint64, p pair.Pair) uint64 { return max(most, uint64(len(p.Value))) }
	case Mixed:
		return mixed(sip.Key{})
	}
	return nil
}

// mixed returns the effect of Mixed with a key. The sums wrap round, which is
// what makes them modulo 2^64.
func mixed(k sip.Key) func(uint64, pair.Pair) uint64 {
	return func(sum uint64, p pair.Pair) uint64 {
		return sum + sip.Sum(k, p.Key) + 3*sip.Sum(k, p.Value)
	}
}
