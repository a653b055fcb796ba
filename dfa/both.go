package dfa

import (
	"slices"

	"dragoman/api"
	"dragoman/span"
)

// pair is a state of one automaton and one of another.
type pair struct{ a, b int }

// Both joins two.
func Both(op int, a, b Dfa, most int) (Dfa, api.Errno) {
	switch {
	case op < Or || op > Unlike || !mayBe(most):
		return Dfa{}, api.ErrArg
	case !Right(a) || !Right(b):
		return Dfa{}, api.ErrForm
	}
	atoms := span.Atoms(slices.Concat(alone(a.Atoms), alone(b.Atoms)))
	inA, inB := places(a.Atoms, atoms), places(b.Atoms, atoms)
	states, next, enough := search(pair{}, most, func(p pair) []pair {
		out := make([]pair, len(atoms))
		for i := range out {
			out[i] = pair{a.Next[p.a][inA[i]], b.Next[p.b][inB[i]]}
		}
		return out
	})
	if !enough {
		return Dfa{}, api.ErrBudget
	}
	d := Dfa{Atoms: atoms, Next: next}
	for _, p := range states {
		d.Accept = append(d.Accept, accepts(op, a.Accept[p.a], b.Accept[p.b]))
	}
	return d, api.OK
}

// accepts says whether a path may end at a pair, by whether it may at each of the two.
func accepts(op int, byA, byB bool) bool {
	switch op {
	case Or:
		return byA || byB
	case And:
		return byA && byB
	case Less:
		return byA && !byB
	}
	return byA != byB
}

// alone is each atom as a set of its own.
func alone(atoms []api.Span) [][]api.Span {
	var out [][]api.Span
	for i := range atoms {
		out = append(out, atoms[i:i+1])
	}
	return out
}

// places is for each finer atom the place of that which holds it.
func places(atoms, finer []api.Span) []int {
	out := make([]int, len(finer))
	for i, s := range finer {
		out[i] = place(atoms, s.Lo)
	}
	return out
}
