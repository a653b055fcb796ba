package dfa

import (
	"math"
	"testing"

	"dragoman/api"
	"dragoman/pattest"
)

// P9.3: joins, state by state.
func TestBoth(t *testing.T) {
	a := Dfa{cut(5), [][]int{{0, 1}, {1, 1}}, []bool{false, true}}
	b := Dfa{cut(3, 7), [][]int{{0, 1, 0}, {1, 0, 1}}, []bool{true, false}}
	want := Dfa{Atoms: cut(3, 5, 7), Next: [][]int{{0, 1, 2, 3}, {1, 0, 3, 2}, {2, 3, 3, 2}, {3, 2, 2, 3}}}
	// The pairs are: 0 0, 0 1, 1 1, 1 0.
	for op, accept := range map[int][]bool{
		Or:     {true, false, true, true},
		And:    {false, false, false, true},
		Less:   {false, false, true, false},
		Unlike: {true, false, true, false},
	} {
		want.Accept = accept
		if got := both(t, op, a, b); !same(got, want) {
			t.Errorf("%d: %v, want %v", op, got, want)
		}
	}
}

// P9.3: atoms are those of all atoms, though states make no difference between them.
func TestBothAtoms(t *testing.T) {
	a := Dfa{cut(5, 9), [][]int{{0, 0, 0}}, []bool{true}}
	b := Dfa{cut(1, 5, last), [][]int{{0, 0, 0, 0}}, []bool{true}}
	want := Dfa{cut(1, 5, 9, last), [][]int{{0, 0, 0, 0, 0}}, []bool{true}}
	for _, op := range []int{Or, And} {
		if got := both(t, op, a, b); !same(got, want) {
			t.Errorf("%d: %v", op, got)
		}
		if got := both(t, op, b, a); !same(got, want) {
			t.Errorf("%d: %v", op, got)
		}
	}
	if got := both(t, And, a, a); !same(got, a) {
		t.Error(got)
	}
}

// P9.3: Both by the document's words, with as many states as there are, and one fewer.
func TestBothByWords(t *testing.T) {
	chance := draws(7)
	for range 1500 {
		a, b := drawn(chance, 5), drawn(chance, 5)
		for op := Or; op <= Unlike; op++ {
			want := bothByWords(op, a, b)
			n := len(want.Next)
			for _, most := range []int{n, api.MaxStates} {
				if got, e := Both(op, a, b, most); e != api.OK || !same(got, want) {
					t.Fatalf("Both(%d, %v, %v, %d): %v %d, want %v", op, a, b, most, got, e, want)
				}
			}
			for most := 1; most < n; most++ {
				if got, e := Both(op, a, b, most); e != api.ErrBudget || !same(got, Dfa{}) {
					t.Fatalf("Both(%d, %v, %v, %d): %v %d", op, a, b, most, got, e)
				}
			}
		}
	}
}

// P9.3: which error comes first.
func TestBothErrors(t *testing.T) {
	good := wheel(3)
	asks := func(op int, a, b Dfa, most int, want api.Errno) {
		t.Helper()
		if d, e := Both(op, a, b, most); e != want || !same(d, Dfa{}) {
			t.Errorf("Both(%d, %v, %v, %d): %v %d, want %d", op, a, b, most, d, e, want)
		}
	}
	for _, op := range []int{0, -1, 5, math.MinInt, math.MaxInt} {
		asks(op, good, good, 9, api.ErrArg)
		asks(op, Dfa{}, good, 1, api.ErrArg)
		asks(op, good, good, 1, api.ErrArg)
	}
	for op := Or; op <= Unlike; op++ {
		for _, most := range wrongMost() {
			asks(op, good, good, most, api.ErrArg)
			asks(op, good, Dfa{}, most, api.ErrArg)
		}
		for _, d := range wrong() {
			for _, most := range []int{1, api.MaxStates} {
				asks(op, d, good, most, api.ErrForm)
				asks(op, good, d, most, api.ErrForm)
				asks(op, d, d, most, api.ErrForm)
			}
		}
		asks(op, good, good, 2, api.ErrBudget)
	}
}

// P9.3: states up to the most that may be, and beyond. Wheels whose sizes have no divisor in common come to all pairs.
func TestBothMost(t *testing.T) {
	for _, x := range []struct {
		a, b, most int
		want       api.Errno
	}{
		{23, 89, 2047, api.OK},
		{23, 89, 2046, api.ErrBudget},
		{1, 2048, 2048, api.OK},
		{2048, 1, 2048, api.OK},
		{2048, 2048, 2048, api.OK},
		{2048, 2048, 2047, api.ErrBudget},
		{64, 2048, 2048, api.OK},
		{3, 683, 2048, api.ErrBudget},
		{683, 3, 2048, api.ErrBudget},
		{2047, 2048, 2048, api.ErrBudget},
		{1, 1, 1, api.OK},
		{2, 1, 1, api.ErrBudget},
	} {
		d, e := Both(And, wheel(x.a), wheel(x.b), x.most)
		if e != x.want || e != api.OK && !same(d, Dfa{}) || e == api.OK && !Right(d) {
			t.Errorf("%v: %d, %d states", x, e, len(d.Next))
		}
	}
}

// P9.3: many atoms.
func TestBothManyAtoms(t *testing.T) {
	var begins []uint32
	for n := range uint32(50000) {
		begins = append(begins, 4*n+4)
	}
	rows := func(n int) [][]int {
		out := make([][]int, 8)
		for i := range out {
			out[i] = make([]int, n)
			for j := range out[i] {
				out[i][j] = (i + j) % len(out)
			}
		}
		return out
	}
	a := Dfa{cut(begins...), rows(len(begins) + 1), make([]bool, 8)}
	for i := range begins {
		begins[i] += 2
	}
	b := Dfa{cut(begins...), rows(len(begins) + 1), make([]bool, 8)}
	if d := both(t, Or, a, b); len(d.Atoms) != 100001 || !Right(d) {
		t.Error(len(d.Atoms))
	}
}

// P9.5: Both takes what its word says.
func TestBothTakes(t *testing.T) {
	chance := draws(8)
	for range 400 {
		a, b := drawn(chance, 5), drawn(chance, 5)
		if chance(2) == 0 {
			a, b = ofRight(t, pattest.Drawn(chance, 4)), ofRight(t, pattest.Drawn(chance, 4))
		}
		paths := pattest.Paths(3, someOf(chance, numbers(a, b), 7)...)
		for op, word := range map[int]func(a, b bool) bool{
			Or:     func(a, b bool) bool { return a || b },
			And:    func(a, b bool) bool { return a && b },
			Less:   func(a, b bool) bool { return a && !b },
			Unlike: func(a, b bool) bool { return a != b },
		} {
			d := both(t, op, a, b)
			for _, l := range paths {
				if got := Run(d, l); got != word(taken(a, l), taken(b, l)) {
					t.Fatalf("Both(%d, %v, %v) at %v: %v", op, a, b, l, got)
				}
			}
		}
	}
}
