package dfa

import (
	"slices"
	"testing"

	"dragoman/api"
	"dragoman/pattest"
)

// P9.4: the first path that is taken.
func TestLeast(t *testing.T) {
	for _, x := range []struct {
		p    api.Pat
		want []uint32
		ok   bool
	}{
		{cat(num(7), anyOne(), num(9)), path(7, 1, 9), true},
		{cat(), nil, true},
		{star(num(5)), nil, true},
		{alt(), nil, false},
		{one(), nil, false},
		{num(0), nil, false},
		{cat(num(5), num(0), num(5)), nil, false},
		{cat(star(num(0)), num(5)), path(5), true},
		{one(0, 5), path(1), true},
		{one(0, 0, 9, 9), path(9), true},
		{num(1), path(1), true},
		{num(last), path(last), true},
		{alt(cat(num(1), num(1)), num(9)), path(9), true},
		{alt(num(9), num(4)), path(4), true},
		{alt(cat(num(2), num(1)), cat(num(1), num(9))), path(1, 9), true},
		{alt(cat(num(1), num(9), num(9)), cat(num(1), num(2), num(9)), cat(num(1), num(2), num(8))), path(1, 2, 8), true},
		{alt(cat(num(1), num(0)), cat(num(5), num(5))), path(5, 5), true},
		{cat(star(one(0, 9)), one(20, 30), one(7, 8)), path(20, 7), true},
		{cat(times(199, anyOne())...), slices.Repeat(path(1), 199), true},
		{cat(anyOne(), alt(num(6), num(3)), one(0, 4)), path(1, 3, 1), true},
	} {
		if got, ok := Least(ofRight(t, x.p)); ok != x.ok || !slices.Equal(got, x.want) {
			t.Errorf("Least of %v: %v %v, want %v %v", x.p, got, ok, x.want, x.ok)
		}
	}
}

// P9.4: of what isn't right there is no first path.
func TestLeastWrong(t *testing.T) {
	for i, d := range wrong() {
		if l, ok := Least(d); ok || len(l) != 0 {
			t.Errorf("%d: %v %v", i, l, ok)
		}
	}
}

// P9.4: the longest first path, which has more numbers than a route's path may.
func TestLeastLongest(t *testing.T) {
	d := wheel(api.MaxStates)
	d.Accept[0], d.Accept[api.MaxStates-1] = false, true
	if l, ok := Least(d); !ok || !slices.Equal(l, slices.Repeat(path(1), api.MaxStates-1)) {
		t.Error(len(l), ok)
	}
	d.Accept[api.MaxStates-1] = false
	if l, ok := Least(d); ok || l != nil {
		t.Error(len(l), ok)
	}
}

// leastByWords is the first of some paths that is taken. It has none that is longer than the automaton has states, since no first one is.
func leastByWords(d Dfa) ([]uint32, bool) {
	with := slices.DeleteFunc(numbers(d), func(n uint32) bool { return n == 0 })
	l := pattest.Paths(len(d.Next)-1, with...)
	slices.SortFunc(l, ahead)
	at := slices.IndexFunc(l, func(p []uint32) bool { return taken(d, p) })
	if at < 0 {
		return nil, false
	}
	return l[at], true
}

// P9.4, P9.5: Least by the document's words: it is taken, and nothing that is taken comes ahead of it.
func TestLeastByWords(t *testing.T) {
	chance := draws(9)
	none := 0
	for range 3000 {
		d := drawn(chance, 4)
		got, ok := Least(d)
		want, is := leastByWords(d)
		if ok != is || !slices.Equal(got, want) {
			t.Fatalf("Least(%v): %v %v, want %v %v", d, got, ok, want, is)
		}
		if ok && !Run(d, got) {
			t.Fatalf("Least(%v): %v isn't taken", d, got)
		}
		if !ok {
			none++
		}
	}
	if none < 100 {
		t.Error("hardly any automaton that takes nothing:", none)
	}
}

// P9.4: the same of what patterns and joins make.
func TestLeastOfJoins(t *testing.T) {
	chance := draws(10)
	for range 2000 {
		a, b := ofRight(t, pattest.Drawn(chance, 3)), ofRight(t, pattest.Drawn(chance, 3))
		d := both(t, 1+chance(4), a, b)
		got, ok := Least(d)
		if ok != slices.ContainsFunc(reached(d), func(s int) bool { return d.Accept[s] }) {
			t.Fatalf("Least(%v): %v %v", d, got, ok)
		}
		if !ok || len(got) > 3 {
			continue
		}
		if slices.Contains(got, 0) || !taken(d, got) {
			t.Fatalf("Least(%v): %v", d, got)
		}
		for _, l := range pattest.Paths(len(got), someOf(chance, numbers(d), 7)...) {
			if taken(d, l) && ahead(l, got) < 0 && !slices.Contains(l, 0) {
				t.Fatalf("Least(%v): %v, but %v is taken", d, got, l)
			}
		}
	}
}

// reached is the states that paths without a 0 lead to.
func reached(d Dfa) []int {
	out := []int{0}
	for i := 0; i < len(out); i++ {
		for _, n := range numbers(d) {
			if s := moved(d, out[i], n); n != 0 && !slices.Contains(out, s) {
				out = append(out, s)
			}
		}
	}
	return out
}
