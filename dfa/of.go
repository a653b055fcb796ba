package dfa

import (
	"dragoman/api"
	"dragoman/bitset"
	"dragoman/pos"
	"dragoman/span"
)

// Of is a pattern's automaton.
func Of(p api.Pat, most int) (Dfa, api.Errno) {
	if !mayBe(most) {
		return Dfa{}, api.ErrArg
	}
	x, e := pos.Of(p)
	if e != api.OK {
		return Dfa{}, e
	}
	atoms := span.Atoms(x.Sets)
	w := walkOf(x)
	kind, kinds := kindsOf(having(atoms, x.Sets))
	states, rows, enough := search(w.first, most, func(s string) []string { return w.behind(s, kinds) })
	if !enough {
		return Dfa{}, api.ErrBudget
	}
	d := Dfa{Atoms: atoms}
	for i, s := range states {
		d.Next = append(d.Next, spread(rows[i], kind))
		d.Accept = append(d.Accept, w.accepts(s))
	}
	return d, api.OK
}

// walk is how positions come behind one another. A set of them is a state, by its text: a byte for each, rising.
// The first state is the set of a position of its own, ahead of First, that no atom leads to.
type walk struct {
	first  string
	follow []bitset.Set
	last   bitset.Set
}

// walkOf is the walk of a pattern by its positions.
func walkOf(x pos.Pos) walk {
	own := bitset.One(len(x.Sets))
	w := walk{first: text(own), last: set(x.Last)}
	for _, l := range append(x.Follow, x.First) {
		w.follow = append(w.follow, set(l))
	}
	if x.Empty {
		w.last = w.last.With(own)
	}
	return w
}

// behind is the states that come behind one, by the atoms of each kind.
func (w walk) behind(state string, kinds []bitset.Set) []string {
	var may bitset.Set
	for i := range len(state) {
		may = may.With(w.follow[state[i]])
	}
	out := make([]string, len(kinds))
	ahead, told := bitset.Set{}, text(bitset.Set{})
	for k, have := range kinds {
		// Most kinds differ from the one ahead only by positions that don't come here.
		if next := may.Both(have); next != ahead {
			ahead, told = next, text(next)
		}
		out[k] = told
	}
	return out
}

// accepts says whether a path may end at a state.
func (w walk) accepts(state string) bool {
	for i := range len(state) {
		if w.last.Has(int(state[i])) {
			return true
		}
	}
	return false
}

// text is a set of positions as a text. A pattern has fewer of them than bytes may be.
func text(s bitset.Set) string {
	var out []byte
	for i := range s.All() {
		out = append(out, byte(i))
	}
	return string(out)
}

// set is a list of positions as a set.
func set(l []int) bitset.Set {
	var out bitset.Set
	for _, i := range l {
		out = out.With(bitset.One(i))
	}
	return out
}

// having is for each atom the positions whose Set has it.
func having(atoms []api.Span, sets [][]api.Span) []bitset.Set {
	out := make([]bitset.Set, len(atoms))
	for i, l := range sets {
		for _, s := range l {
			for a := place(atoms, s.Lo); a < len(atoms) && atoms[a].Lo <= s.Hi; a++ {
				out[a] = out[a].With(bitset.One(i))
			}
		}
	}
	return out
}

// kindsOf is for each atom the number of its kind, and each kind's positions: what the same ones have leads to the same.
// Where sets have many spans, there may be far fewer kinds than atoms.
func kindsOf(have []bitset.Set) ([]int, []bitset.Set) {
	kinds := found[bitset.Set]{number: map[bitset.Set]int{}}
	kind := make([]int, len(have))
	for a, s := range have {
		kind[a] = kinds.of(s)
	}
	return kind, kinds.all
}

// spread is what comes behind a state by each atom, of what does by each kind of them.
func spread(row, kind []int) []int {
	out := make([]int, len(kind))
	for a, k := range kind {
		out[a] = row[k]
	}
	return out
}
