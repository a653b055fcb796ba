package dfa

import (
	"math"
	"slices"
	"testing"

	"dragoman/api"
	"dragoman/pattest"
)

// P9.1: which automata are right.
func TestRight(t *testing.T) {
	for i, d := range []Dfa{
		wheel(1),
		wheel(2),
		wheel(api.MaxStates - 1),
		wheel(api.MaxStates),
		{Atoms: cut(1, 2, last), Next: [][]int{{0, 0, 0, 0}}, Accept: []bool{false}},
		{Atoms: cut(last), Next: [][]int{{1, 1}, {1, 1}, {2, 0}}, Accept: []bool{false, true, true}},
		{Atoms: cut(5, 6, 7), Next: [][]int{{1, 0, 1, 0}, {1, 1, 1, 1}}, Accept: []bool{false, false}},
		ofRight(t, num(5)),
	} {
		if !Right(d) {
			t.Error(i)
		}
	}
	for i, d := range wrong() {
		if Right(d) {
			t.Errorf("%d: %v", i, d)
		}
	}
	chance := draws(2)
	for range 1000 {
		if d := drawn(chance, 9); !Right(d) {
			t.Fatal(d)
		}
	}
}

// P9.1: what an automaton takes.
func TestRun(t *testing.T) {
	d := Dfa{Atoms: cut(5, 6), Next: [][]int{{1, 2, 1}, {1, 1, 1}, {0, 2, 1}}, Accept: []bool{false, false, true}}
	for _, x := range []struct {
		l    []uint32
		want bool
	}{
		{nil, false},
		{[]uint32{}, false},
		{path(5), true},
		{path(4), false},
		{path(6), false},
		{path(0), false},
		{path(last), false},
		{path(5, 5, 5), true},
		{path(5, 0), false},
		{path(5, 4, 5), true},
		{path(5, 0, 5, 5), true},
		{path(5, 6, 5), false},
		{slices.Repeat(path(5, 4), 200), false},
		{slices.Repeat(path(4, 5), 200), false},
		{append(slices.Repeat(path(5, 0), 200), 5), true},
	} {
		if got := Run(d, x.l); got != x.want {
			t.Errorf("Run at %v: %v", x.l, got)
		}
	}
	for n := range 100 {
		if got := Run(wheel(7), make([]uint32, n)); got != (n%7 == 0) {
			t.Error(n, got)
		}
	}
	if Run(wheel(1), nil) != true || Run(wheel(api.MaxStates), make([]uint32, 3*api.MaxStates)) != true {
		t.Error("wheels")
	}
}

// P9.1: what isn't right takes nothing, even where a path would not come to what is wrong.
func TestRunWrong(t *testing.T) {
	for i, d := range wrong() {
		for _, l := range pattest.Paths(2, 0, 4, 5, last) {
			if Run(d, l) {
				t.Errorf("%d: %v", i, l)
			}
		}
	}
}

// P9.1: Run by the document's words.
func TestRunByWords(t *testing.T) {
	chance := draws(3)
	for range 300 {
		d := drawn(chance, 6)
		for _, l := range pattest.Paths(3, numbers(d)...) {
			if got, want := Run(d, l), taken(d, l); got != want {
				t.Fatalf("%v at %v: %v", d, l, got)
			}
		}
	}
}

// P9.1: Not turns Accept, and nothing else.
func TestNot(t *testing.T) {
	chance := draws(4)
	for range 300 {
		d := drawn(chance, 6)
		got, e := Not(d)
		want := Dfa{Atoms: d.Atoms, Next: d.Next}
		for _, b := range d.Accept {
			want.Accept = append(want.Accept, !b)
		}
		if e != api.OK || !same(got, want) {
			t.Fatalf("Not(%v): %v %d", d, got, e)
		}
	}
	if d, e := Not(wheel(api.MaxStates)); e != api.OK || len(d.Next) != api.MaxStates {
		t.Error(len(d.Next), e)
	}
}

// P9.1: of what isn't right there is no Not.
func TestNotForm(t *testing.T) {
	for i, d := range wrong() {
		if got, e := Not(d); e != api.ErrForm || !same(got, Dfa{}) {
			t.Errorf("%d: %v %d", i, got, e)
		}
	}
}

// P9.2, P9.3: numbers of states that may not be.
func wrongMost() []int {
	return []int{0, -1, api.MaxStates + 1, math.MinInt, math.MaxInt}
}

// P9.5: Not takes what its automaton doesn't.
func TestNotTakes(t *testing.T) {
	chance := draws(5)
	for range 300 {
		d := drawn(chance, 6)
		n, _ := Not(d)
		for _, l := range pattest.Paths(3, numbers(d)...) {
			if Run(n, l) == Run(d, l) {
				t.Fatalf("%v at %v", d, l)
			}
		}
	}
}
