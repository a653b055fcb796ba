package dfa

import (
	"slices"
	"testing"

	"dragoman/api"
	"dragoman/pat"
	"dragoman/pattest"
	"dragoman/pos"
	"dragoman/span"
)

// P9.2: patterns' automata, state by state.
func TestOf(t *testing.T) {
	a, b := num(1), num(2)
	for _, x := range []struct {
		p    api.Pat
		want Dfa
	}{
		{num(5), Dfa{cut(5, 6), [][]int{{1, 2, 1}, {1, 1, 1}, {1, 1, 1}}, []bool{false, false, true}}},
		{cat(), Dfa{cut(), [][]int{{1}, {1}}, []bool{true, false}}},
		{alt(), Dfa{cut(), [][]int{{1}, {1}}, []bool{false, false}}},
		{one(), Dfa{cut(), [][]int{{1}, {1}}, []bool{false, false}}},
		{one(9, 8), Dfa{cut(), [][]int{{1}, {1}}, []bool{false, false}}},
		{star(cat()), Dfa{cut(), [][]int{{1}, {1}}, []bool{true, false}}},
		{anyOne(), Dfa{cut(), [][]int{{1}, {2}, {2}}, []bool{false, true, false}}},
		{star(anyOne()), Dfa{cut(), [][]int{{1}, {1}}, []bool{true, true}}},
		{star(num(0)), Dfa{cut(1), [][]int{{1, 2}, {1, 2}, {2, 2}}, []bool{true, true, false}}},
		{star(num(last)), Dfa{cut(last), [][]int{{1, 2}, {1, 1}, {1, 2}}, []bool{true, false, true}}},
		{star(star(a)), Dfa{cut(1, 2), [][]int{{1, 2, 1}, {1, 1, 1}, {1, 2, 1}}, []bool{true, false, true}}},
		{cat(star(anyOne()), b), Dfa{cut(2, 3), [][]int{{1, 2, 1}, {1, 2, 1}, {1, 2, 1}}, []bool{false, false, true}}},
		{cat(a, b), Dfa{cut(1, 2, 3), [][]int{{1, 2, 1, 1}, {1, 1, 1, 1}, {1, 1, 3, 1}, {1, 1, 1, 1}}, []bool{false, false, false, true}}},
		{alt(a, one(1, 2)), Dfa{cut(1, 2, 3), [][]int{{1, 2, 3, 1}, {1, 1, 1, 1}, {1, 1, 1, 1}, {1, 1, 1, 1}}, []bool{false, false, true, true}}},
		{cat(a, alt(), b), Dfa{cut(1, 2, 3), [][]int{{1, 2, 1, 1}, {1, 1, 1, 1}, {1, 1, 1, 1}}, []bool{false, false, false}}},
		{one(3, 4, 1, 1, 2, 2, 9, 8), Dfa{cut(1, 5), [][]int{{1, 2, 1}, {1, 1, 1}, {1, 1, 1}}, []bool{false, false, true}}},
		{one(1, 1, 5, 5), Dfa{cut(1, 2, 5, 6), [][]int{{1, 2, 1, 2, 1}, {1, 1, 1, 1, 1}, {1, 1, 1, 1, 1}}, []bool{false, false, true}}},
	} {
		if got := ofRight(t, x.p); !same(got, x.want) {
			t.Errorf("Of(%v): %v, want %v", x.p, got, x.want)
		}
	}
}

// ofOracle is a pattern's automaton by the document's words.
func ofOracle(p api.Pat) Dfa {
	x, _ := pos.Of(p)
	return ofByWords(x, span.Atoms(x.Sets))
}

// P9.2: Of by the document's words, with as many states as there are, and one fewer.
func TestOfByWords(t *testing.T) {
	for _, p := range patterns(3000) {
		want := ofOracle(p)
		n := len(want.Next)
		for _, most := range []int{n, n + 1, api.MaxStates} {
			if got, e := Of(p, most); e != api.OK || !same(got, want) {
				t.Fatalf("Of(%v, %d): %v %d, want %v", p, most, got, e, want)
			}
		}
		for _, most := range []int{1, n / 2, n - 1} {
			if got, e := Of(p, most); most > 0 && most < n && (e != api.ErrBudget || !same(got, Dfa{})) {
				t.Fatalf("Of(%v, %d): %v %d, has %d", p, most, got, e, n)
			}
		}
	}
}

// P9.2: which error comes first.
func TestOfErrors(t *testing.T) {
	for _, most := range wrongMost() {
		for _, p := range append(pattest.Endless(), num(5), api.Pat{}) {
			if d, e := Of(p, most); e != api.ErrArg || !same(d, Dfa{}) {
				t.Errorf("most %d: %v %d", most, d, e)
			}
		}
	}
	for i, p := range append(pattest.Wrong(), pattest.Endless()...) {
		for _, most := range []int{1, api.MaxStates} {
			if d, e := Of(p, most); e != api.ErrForm || !same(d, Dfa{}) {
				t.Errorf("%d, most %d: %v %d", i, most, d, e)
			}
		}
	}
	for _, most := range []int{1, 2, 3} {
		want := api.ErrBudget
		if most == 3 {
			want = api.OK
		}
		if _, e := Of(num(5), most); e != want {
			t.Error(most, e)
		}
	}
}

// remembers is a pattern whose automaton must know at which of the last n numbers there was a 1: each set of them is a state.
func remembers(n int) api.Pat {
	return cat(append([]api.Pat{star(anyOne()), num(1)}, times(n-1, anyOne())...)...)
}

// P9.2: states up to the most that may be, and beyond.
func TestOfMost(t *testing.T) {
	// The first state, and with the position of the Star, which each set has, each set of the n others.
	for n := 1; n <= 10; n++ {
		count := 1 + 1<<n
		if d, e := Of(remembers(n), count); e != api.OK || len(d.Next) != count || len(d.Accept) != count || !Right(d) {
			t.Error(n, e, len(d.Next))
		}
		if d, e := Of(remembers(n), count-1); e != api.ErrBudget || !same(d, Dfa{}) {
			t.Error(n, e, len(d.Next))
		}
	}
	for _, n := range []int{11, 12, 60, 190} {
		if d, e := Of(remembers(n), api.MaxStates); e != api.ErrBudget || !same(d, Dfa{}) {
			t.Error(n, e, len(d.Next))
		}
	}
}

// manySpans is a One of n spans, of one number each, by steps from a number on.
func manySpans(n int, from, step uint32) api.Pat {
	p := api.Pat{Kind: api.One}
	for i := range uint32(n) {
		p.Set = append(p.Set, api.Span{Lo: from + i*step, Hi: from + i*step})
	}
	return p
}

// P9.2: the largest patterns that are right, with sets as large as may be, are read soon.
func TestOfLargest(t *testing.T) {
	var apart, near []api.Pat
	for i := range uint32(198) {
		apart = append(apart, manySpans(256, 1+512*i, 2))
		near = append(near, manySpans(256, 1+i, 200+i))
	}
	d := ofRight(t, star(alt(apart...)))
	if len(d.Next) != 200 || len(d.Atoms) != 2*198*256+1 || !Right(d) {
		t.Error(len(d.Next), len(d.Atoms))
	}
	if d = ofRight(t, cat(apart...)); len(d.Next) != 200 || d.Accept[0] || !d.Accept[199] {
		t.Error(len(d.Next))
	}
	if d = ofRight(t, cat(near...)); len(d.Next) != 200 || !Right(d) {
		t.Error(len(d.Next))
	}
	if d, e := Of(star(alt(near...)), api.MaxStates); e != api.ErrBudget || !same(d, Dfa{}) {
		t.Error(e, len(d.Next))
	}
	if d = ofRight(t, cat(times(199, anyOne())...)); len(d.Next) != 201 || len(d.Atoms) != 1 {
		t.Error(len(d.Next), len(d.Atoms))
	}
	if d = ofRight(t, alt(times(199, num(7))...)); len(d.Next) != 3 {
		t.Error(len(d.Next))
	}
	if d = ofRight(t, alt(remembers(6), alt(apart[:100]...))); !Right(d) || len(d.Atoms) != 2*100*256+1 {
		t.Error(len(d.Next), len(d.Atoms))
	}
}

// P9.2: the empty set is a state as any other, and the first state is none of the sets, even where none differs from it.
func TestOfFirst(t *testing.T) {
	for _, p := range patterns(500) {
		d := ofRight(t, p)
		for i, row := range d.Next {
			if slices.Contains(row, 0) {
				t.Fatalf("Of(%v): state %d leads to the first one", p, i)
			}
		}
	}
}

// P9.5: an automaton of a pattern takes just what the pattern takes.
func TestOfTakes(t *testing.T) {
	chance := draws(6)
	for _, p := range patterns(600) {
		d := ofRight(t, p)
		if !Right(d) {
			t.Fatalf("Of(%v): %v", p, d)
		}
		for _, l := range pattest.Paths(4, someOf(chance, numbers(d), 6)...) {
			if got := Run(d, l); got != pat.Match(p, l) {
				t.Fatalf("%v at %v: %v", p, l, got)
			}
		}
	}
}
