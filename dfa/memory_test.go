package dfa

import (
	"slices"
	"testing"

	"dragoman/api"
	"dragoman/pattest"
)

// roomy is the same list with spare room, which is filled.
func roomy[T any](l []T, with T) []T {
	return append(slices.Clone(l), with, with)[:len(l)]
}

// copied is the same automaton in new memory, all lists of which have spare room, which is filled.
func copied(d Dfa) Dfa {
	out := Dfa{Atoms: roomy(d.Atoms, api.Span{Lo: 3, Hi: 4}), Accept: roomy(d.Accept, true)}
	for _, row := range d.Next {
		out.Next = append(out.Next, roomy(row, 77))
	}
	out.Next = roomy(out.Next, []int{77})
	return out
}

// stands says whether an automaton is as copied left it, its spare room too.
func stands(d, was Dfa) bool {
	filled := func(l []int, i int) bool { return slices.Equal(l[:len(l)+2][len(l):], []int{77, 77}) }
	for i, row := range d.Next {
		if !filled(row, i) {
			return false
		}
	}
	spare := d.Next[:len(d.Next)+2][len(d.Next):]
	return same(d, was) && d.Accept[:len(d.Accept)+1][len(d.Accept)] && d.Atoms[:len(d.Atoms)+1][len(d.Atoms)] == api.Span{Lo: 3, Hi: 4} &&
		slices.Equal(spare[0], []int{77}) && slices.Equal(spare[1], []int{77})
}

// spoil writes over all of an automaton, its spare room too.
func spoil(d Dfa) {
	for i := range d.Atoms[:cap(d.Atoms)] {
		d.Atoms[:cap(d.Atoms)][i] = api.Span{Lo: 9, Hi: 9}
	}
	for i := range d.Accept[:cap(d.Accept)] {
		d.Accept[:cap(d.Accept)][i] = i%2 == 0
	}
	for _, row := range d.Next {
		for i := range row[:cap(row)] {
			row[:cap(row)][i] = 99
		}
	}
	for i := range d.Next[:cap(d.Next)] {
		d.Next[:cap(d.Next)][i] = []int{99}
	}
}

// Rule 4: what is handed in stays as it was, and answers are not of its memory.
func TestArgumentsStay(t *testing.T) {
	chance := draws(11)
	for range 300 {
		d, e := drawn(chance, 5), drawn(chance, 5)
		a, b := copied(d), copied(e)
		not, _ := Not(a)
		spoil(not)
		for op := Or; op <= Unlike; op++ {
			spoil(both(t, op, a, b))
			spoil(both(t, op, a, a))
		}
		l := roomy(path(1, 2, 3), 77)
		Run(a, l)
		Right(a)
		if least, ok := Least(a); ok {
			clear(least[:cap(least)])
		}
		if !stands(a, d) || !stands(b, e) || !slices.Equal(l[:5], path(1, 2, 3, 77, 77)) {
			t.Fatalf("%v %v: now %v %v", d, e, a, b)
		}
	}
	for _, p := range patterns(300) {
		if !pattest.Stays(p, func(p api.Pat) { spoil(ofRight(t, p)) }) {
			t.Fatalf("Of(%v) changes it", p)
		}
	}
}

// apart says whether no two rows of an automaton share memory, their spare room too.
func apart(answer func() Dfa) bool {
	want := copied(answer())
	for i := range want.Next {
		d := answer()
		row := d.Next[i]
		for j := range row[:cap(row)] {
			row[:cap(row)][j] = 99
		}
		d.Next[i] = want.Next[i]
		if !same(d, want) {
			return false
		}
	}
	spoil(answer())
	return same(answer(), want)
}

// Rule 4: an answer is new memory, and no two lists of it share any.
func TestNew(t *testing.T) {
	chance := draws(12)
	for range 100 {
		a, b := drawn(chance, 5), drawn(chance, 5)
		p := pattest.Drawn(chance, 4)
		for i, answer := range []func() Dfa{
			func() Dfa { return ofRight(t, p) },
			func() Dfa { return both(t, Or, a, b) },
			func() Dfa { d, _ := Not(a); return d },
		} {
			if !apart(answer) {
				t.Fatalf("%d: %v %v %v", i, a, b, p)
			}
		}
	}
}

// Rule 3: nil and empty are one.
func TestEmptyLists(t *testing.T) {
	none := Dfa{Atoms: []api.Span{}, Next: [][]int{}, Accept: []bool{}}
	if Right(none) || Run(none, nil) || Run(none, []uint32{}) {
		t.Error("an automaton without states")
	}
	if _, e := Not(none); e != api.ErrForm {
		t.Error(e)
	}
	if !Run(wheel(3), []uint32{}) || !Run(wheel(3), nil) {
		t.Error("a path without numbers")
	}
	a := ofRight(t, alt(cat(), one()))
	b := ofRight(t, alt(api.Pat{Kind: api.Cat, Set: []api.Span{}, Subs: []api.Pat{}}, api.Pat{Kind: api.One, Set: []api.Span{}, Subs: []api.Pat{}}))
	if !same(a, b) {
		t.Error(a, b)
	}
}

// Rule 5: the same call answers the same.
func TestSameEachTime(t *testing.T) {
	for _, p := range patterns(300) {
		a := ofRight(t, p)
		if b := ofRight(t, p); !same(a, b) || !same(both(t, Unlike, a, b), both(t, Unlike, a, b)) {
			t.Fatalf("Of(%v)", p)
		}
	}
}
