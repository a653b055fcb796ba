package pos

import (
	"dragoman/api"
	"dragoman/bitset"
	"dragoman/span"
)

// Run says whether a path is taken.
func Run(x Pos, path []uint32) bool {
	if len(path) == 0 {
		return x.Empty
	}
	// More positions than a right pattern has parts are none of Of's, and more than a set holds.
	if len(x.Sets) > api.MaxNodes {
		return false
	}
	behind := x.behind()
	may, at := x.set(x.First), bitset.Set{}
	for _, n := range path {
		at, may = x.having(may, n), bitset.Set{}
		for i := range at.All() {
			may = may.With(behind[i])
		}
	}
	return at.Both(x.set(x.Last)) != bitset.Set{}
}

// set is a list of positions as a set. What is no position of x, as Of never tells it, is left out.
func (x *Pos) set(l []int) bitset.Set {
	var out bitset.Set
	for _, n := range l {
		if 0 <= n && n < len(x.Sets) {
			out = out.With(bitset.One(n))
		}
	}
	return out
}

// behind is the Follow of each position as a set.
func (x *Pos) behind() []bitset.Set {
	out := make([]bitset.Set, len(x.Sets))
	for i := range min(len(x.Sets), len(x.Follow)) {
		out[i] = x.set(x.Follow[i])
	}
	return out
}

// having is those of some positions whose Set has a number.
func (x *Pos) having(some bitset.Set, n uint32) bitset.Set {
	var out bitset.Set
	for i := range some.All() {
		if span.In(x.Sets[i], n) {
			out = out.With(bitset.One(i))
		}
	}
	return out
}
