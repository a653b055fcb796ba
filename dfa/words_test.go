package dfa

import (
	"math/rand/v2"
	"slices"
	"testing"

	"dragoman/api"
	"dragoman/pat"
	"dragoman/pattest"
	"dragoman/pos"
)

// The patterns of the tests, written short.
const last = pattest.Last

var (
	one, num = pattest.One, pattest.Num
	cat, alt = pattest.Cat, pattest.Alt
	star     = pattest.Star
	times    = pattest.Row
)

// anyOne is a One of all numbers.
func anyOne() api.Pat { return one(0, last) }

// path writes a path.
func path(l ...uint32) []uint32 { return l }

// spans is spans written as their ends.
func spans(ends ...uint32) []api.Span { return one(ends...).Set }

// draws is a chance of its own, the same one at each run.
func draws(n uint64) pattest.Chance {
	return rand.New(rand.NewPCG(91, n)).IntN
}

// patterns is many right patterns.
func patterns(n int) []api.Pat {
	return pattest.Patterns(draws(1), n)
}

// ofRight is a right pattern's automaton.
func ofRight(t *testing.T, p api.Pat) Dfa {
	t.Helper()
	d, e := Of(p, api.MaxStates)
	if e != api.OK {
		size, _ := pat.Size(p)
		t.Fatalf("Of a pattern of %d: %d", size, e)
	}
	return d
}

// both is a join of two right automata.
func both(t *testing.T, op int, a, b Dfa) Dfa {
	t.Helper()
	d, e := Both(op, a, b, api.MaxStates)
	if e != api.OK {
		t.Fatalf("Both(%d, %v, %v): %d", op, a, b, e)
	}
	return d
}

// same says whether two automata are one, nil and empty lists too.
func same(a, b Dfa) bool {
	return slices.Equal(a.Atoms, b.Atoms) && slices.EqualFunc(a.Next, b.Next, slices.Equal) && slices.Equal(a.Accept, b.Accept)
}

// cut is all numbers as spans of which each begins at one of these numbers, which rise; the first one at 0.
func cut(begins ...uint32) []api.Span {
	out := []api.Span{{}}
	for _, n := range begins {
		out[len(out)-1].Hi = n - 1
		out = append(out, api.Span{Lo: n})
	}
	out[len(out)-1].Hi = last
	return out
}

// drawn is a right automaton of at most so many states.
func drawn(chance pattest.Chance, most int) Dfa {
	var begins []uint32
	for _, n := range []uint32{1, 2, 3, 4, last - 1, last} {
		if chance(3) == 0 {
			begins = append(begins, n)
		}
	}
	d := Dfa{Atoms: cut(begins...)}
	for n := 1 + chance(most); len(d.Next) < n; {
		row := make([]int, len(d.Atoms))
		for i := range row {
			row[i] = chance(n)
		}
		d.Next = append(d.Next, row)
		d.Accept = append(d.Accept, chance(3) == 0)
	}
	return d
}

// wheel is an automaton of so many states that takes the paths of that many numbers, or so many times as many.
func wheel(n int) Dfa {
	d := Dfa{Atoms: cut(), Accept: make([]bool, n)}
	d.Accept[0] = true
	for i := range n {
		d.Next = append(d.Next, []int{(i + 1) % n})
	}
	return d
}

// wrong is automata that aren't right, each in one way.
func wrong() []Dfa {
	two := func(change func(d *Dfa)) Dfa {
		d := Dfa{Atoms: cut(5), Next: [][]int{{0, 1}, {1, 0}}, Accept: []bool{false, true}}
		change(&d)
		return d
	}
	atoms := func(ends ...uint32) Dfa {
		l := spans(ends...)
		row := make([]int, len(l))
		return Dfa{Atoms: l, Next: [][]int{row, row}, Accept: []bool{true, false}}
	}
	return []Dfa{
		{},
		{Atoms: cut()},
		{Atoms: cut(), Accept: []bool{true}},
		{Atoms: cut(), Next: [][]int{{0}}},
		{Next: [][]int{{}}, Accept: []bool{true}},
		wheel(api.MaxStates + 1),
		two(func(d *Dfa) { d.Next[0] = []int{0} }),
		two(func(d *Dfa) { d.Next[1] = []int{0, 1, 0} }),
		two(func(d *Dfa) { d.Next[1] = nil }),
		two(func(d *Dfa) { d.Next[0][1] = 2 }),
		two(func(d *Dfa) { d.Next[1][0] = -1 }),
		two(func(d *Dfa) { d.Next[1][1] = 1 << 62 }),
		two(func(d *Dfa) { d.Next[1][1] = -1 << 63 }),
		two(func(d *Dfa) { d.Next = d.Next[:1] }),
		two(func(d *Dfa) { d.Next = append(d.Next, []int{0, 0}) }),
		two(func(d *Dfa) { d.Accept = d.Accept[:1] }),
		two(func(d *Dfa) { d.Accept = append(d.Accept, false) }),
		two(func(d *Dfa) { d.Accept = nil }),
		atoms(),
		atoms(0, last-1),
		atoms(1, last),
		atoms(5, 5),
		atoms(0, 4, 6, last),
		atoms(0, 5, 5, last),
		atoms(0, 4, 4, last),
		atoms(0, 4, 5, last, 0, last),
		atoms(0, last, 0, last),
		atoms(0, last, 0, 0),
		atoms(0, last, last, last),
		atoms(5, last, 0, 4),
		atoms(0, 4, 5, 4, 5, last),
		atoms(0, 4, 5, 3, 4, last),
		atoms(last, 0),
		atoms(0, 4, 5, last, 0, 4, 5, last),
	}
}

// moved is the state that comes behind one by a number, by the document's words.
func moved(d Dfa, s int, n uint32) int {
	return d.Next[s][slices.IndexFunc(d.Atoms, func(a api.Span) bool { return a.Lo <= n && n <= a.Hi })]
}

// taken says whether a path comes from the first state, number by number, to one of Accept.
func taken(d Dfa, path []uint32) bool {
	s := 0
	for _, n := range path {
		s = moved(d, s, n)
	}
	return d.Accept[s]
}

// numbers is numbers at which automata may tell paths apart: the least and greatest of all atoms, and 0 and 1.
func numbers(l ...Dfa) []uint32 {
	out := []uint32{0, 1, last}
	for _, d := range l {
		for _, a := range d.Atoms {
			out = append(out, a.Lo, a.Hi)
		}
	}
	slices.Sort(out)
	return slices.Compact(out)
}

// someOf is at most n of some numbers.
func someOf(chance pattest.Chance, l []uint32, n int) []uint32 {
	for len(l) > n {
		i := chance(len(l))
		l = slices.Delete(l, i, i+1)
	}
	return l
}

// ofByWords is a pattern's automaton, as the document's words say: a set of positions is a list, and the first state nil.
func ofByWords(x pos.Pos, atoms []api.Span) Dfa {
	d := Dfa{Atoms: atoms, Accept: []bool{x.Empty}}
	sets := [][]int{nil}
	for i := 0; i < len(sets); i++ {
		behind := x.First
		if i > 0 {
			behind = nil
			for _, at := range sets[i] {
				behind = append(behind, x.Follow[at]...)
			}
		}
		var row []int
		for _, a := range atoms {
			set := []int{}
			for at := range x.Sets {
				has := slices.ContainsFunc(x.Sets[at], func(s api.Span) bool { return s.Lo <= a.Lo && a.Lo <= s.Hi })
				if has && slices.Contains(behind, at) {
					set = append(set, at)
				}
			}
			n := slices.IndexFunc(sets, func(s []int) bool { return s != nil && slices.Equal(s, set) })
			if n < 0 {
				n = len(sets)
				sets = append(sets, set)
				d.Accept = append(d.Accept, slices.ContainsFunc(set, func(at int) bool { return slices.Contains(x.Last, at) }))
			}
			row = append(row, n)
		}
		d.Next = append(d.Next, row)
	}
	return d
}

// bothByWords is a join of two, as the document's words say.
func bothByWords(op int, a, b Dfa) Dfa {
	begins := map[uint32]int{}
	for _, s := range slices.Concat(a.Atoms, b.Atoms) {
		begins[s.Lo] = 1
	}
	delete(begins, 0)
	d := Dfa{}
	var l []uint32
	for n := range begins {
		l = append(l, n)
	}
	slices.Sort(l)
	d.Atoms = cut(l...)
	pairs := [][2]int{{0, 0}}
	for i := 0; i < len(pairs); i++ {
		p, q := pairs[i][0], pairs[i][1]
		var row []int
		for _, s := range d.Atoms {
			to := [2]int{moved(a, p, s.Hi), moved(b, q, s.Hi)}
			if !slices.Contains(pairs, to) {
				pairs = append(pairs, to)
			}
			row = append(row, slices.Index(pairs, to))
		}
		d.Next = append(d.Next, row)
		x, y := a.Accept[p], b.Accept[q]
		d.Accept = append(d.Accept, []bool{x || y, x && y, x && !y, x && !y || y && !x}[op-1])
	}
	return d
}

// ahead compares two paths, as the document orders them: by how many numbers they have, then by the first that differs.
func ahead(a, b []uint32) int {
	if len(a) != len(b) {
		return len(a) - len(b)
	}
	return slices.Compare(a, b)
}
