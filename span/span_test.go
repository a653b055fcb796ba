package span

import (
	"math/rand/v2"
	"slices"
	"testing"

	"dragoman/api"
)

// set writes spans as their ends: set(1, 2, 5, 7) is {1 2} {5 7}.
func set(ends ...uint32) []api.Span {
	var out []api.Span
	for i := 0; i+1 < len(ends); i += 2 {
		out = append(out, api.Span{Lo: ends[i], Hi: ends[i+1]})
	}
	return out
}

// all is the set of all numbers.
func all() []api.Span { return set(0, last) }

// lists is sets in many shapes: the edges that the document names, and many by chance (the same ones at each run).
func lists() [][]api.Span {
	out := [][]api.Span{
		nil,
		{},
		set(9, 8),
		set(last, 0),
		set(0, 0),
		set(last, last),
		set(0, 0, last, last),
		set(1, last-1),
		set(last-1, last, last, last),
		set(0, last),
		set(0, last, 3, 4, 9, 8),
		set(0, 5, 6, last),
		set(0, 4, 6, last),
		set(5, 7, 1, 2, 3, 4, 9, 8),
		set(1, 9, 2, 3, 5, 12),
		set(1, 9, 2, 3, 11, 12),
		set(7, 7, 7, 7, 5, 5, 6, 6),
	}
	chance := rand.New(rand.NewPCG(1, 2))
	for range 300 {
		out = append(out, drawn(chance))
	}
	return out
}

// drawn is a list whose ends crowd near 0 and near the greatest number, so that spans touch and overlap.
func drawn(chance *rand.Rand) []api.Span {
	var out []api.Span
	for range chance.IntN(7) {
		lo, n := uint32(chance.IntN(24)), uint32(chance.IntN(5))
		switch chance.IntN(8) {
		case 0:
			out = append(out, api.Span{Lo: last - lo, Hi: last})
		case 1:
			out = append(out, api.Span{Lo: last - lo, Hi: last - lo + n}) // may wrap: an empty span
		case 2:
			out = append(out, api.Span{Lo: lo, Hi: last - uint32(chance.IntN(24))})
		case 3:
			out = append(out, api.Span{Lo: lo + 1, Hi: lo - min(lo, n)})
		default:
			out = append(out, api.Span{Lo: lo, Hi: lo + n})
		}
	}
	return out
}

// edges is every number at which one of the sets may change, with its neighbours: what holds of all of them holds of all numbers.
func edges(sets ...[]api.Span) []uint32 {
	out := []uint32{0, 1, last - 1, last}
	for _, l := range sets {
		for _, s := range l {
			out = append(out, s.Lo-1, s.Lo, s.Lo+1, s.Hi-1, s.Hi, s.Hi+1)
		}
	}
	return out
}

// has is the document's own word for what is in a set, apart from In.
func has(l []api.Span, n uint32) bool {
	return slices.ContainsFunc(l, func(s api.Span) bool { return !(n < s.Lo || s.Hi < n) })
}

// inForm says whether a list is a set's one form.
func inForm(l []api.Span) bool {
	for i, s := range l {
		if s.Lo > s.Hi {
			return false
		}
		if i > 0 && uint64(s.Lo) < uint64(l[i-1].Hi)+2 {
			return false
		}
	}
	return true
}

// holds asks that got is in its one form and has n just where want says so.
func holds(t *testing.T, what string, got []api.Span, points []uint32, want func(n uint32) bool) {
	t.Helper()
	if !inForm(got) {
		t.Fatalf("%s: %v isn't in its one form", what, got)
	}
	for _, n := range append(points, edges(got)...) {
		if has(got, n) != want(n) {
			t.Fatalf("%s: %v: %d: want %v", what, got, n, want(n))
		}
	}
}

// P1.1: In.
func TestIn(t *testing.T) {
	for _, x := range []struct {
		l    []api.Span
		n    uint32
		want bool
	}{
		{nil, 0, false},
		{nil, last, false},
		{set(9, 8), 8, false},
		{set(9, 8), 9, false},
		{set(last, 0), 0, false},
		{set(last, 0), 7, false},
		{set(last, 0), last, false},
		{set(3, 5), 2, false},
		{set(3, 5), 3, true},
		{set(3, 5), 4, true},
		{set(3, 5), 5, true},
		{set(3, 5), 6, false},
		{set(9, 9, 3, 5), 4, true},
		{set(9, 9, 3, 5), 9, true},
		{set(9, 9, 3, 5), 8, false},
		{set(0, 0), 0, true},
		{set(0, 0), 1, false},
		{set(last, last), last, true},
		{set(last, last), last - 1, false},
		{all(), 0, true},
		{all(), last, true},
	} {
		if got := In(x.l, x.n); got != x.want {
			t.Errorf("In(%v, %d): %v", x.l, x.n, got)
		}
	}
	for _, l := range lists() {
		for _, n := range edges(l) {
			if got := In(l, n); got != has(l, n) {
				t.Fatalf("In(%v, %d): %v", l, n, got)
			}
		}
	}
}

// P1.1: Norm.
func TestNorm(t *testing.T) {
	for _, x := range []struct{ l, want []api.Span }{
		{nil, nil},
		{[]api.Span{}, nil},
		{set(9, 8), nil},
		{set(last, 0, 1, 0), nil},
		{set(5, 7, 1, 2, 3, 4, 9, 8), set(1, 7)},
		{set(1, 2, 4, 5), set(1, 2, 4, 5)},
		{set(4, 5, 1, 2), set(1, 2, 4, 5)},
		{set(1, 2, 3, 5), set(1, 5)},
		{set(1, 4, 3, 5), set(1, 5)},
		{set(1, 9, 3, 5, 11, 12), set(1, 9, 11, 12)},
		{set(1, 9, 3, 5, 10, 12), set(1, 12)},
		{set(7, 7, 7, 7), set(7, 7)},
		{set(0, 0), set(0, 0)},
		{set(last, last), set(last, last)},
		{set(last, last, 0, 0), set(0, 0, last, last)},
		{set(5, last, last, last), set(5, last)},
		{set(5, last, 7, 8, 0, 4), all()},
		{set(0, last, 0, last), all()},
	} {
		if got := Norm(x.l); !slices.Equal(got, x.want) {
			t.Errorf("Norm(%v): %v, want %v", x.l, got, x.want)
		}
	}
	for _, l := range lists() {
		holds(t, "Norm", Norm(l), edges(l), func(n uint32) bool { return has(l, n) })
	}
}

// P1.1: a set has one form, however its spans stand.
func TestNormIsOne(t *testing.T) {
	chance := rand.New(rand.NewPCG(3, 4))
	for _, l := range lists() {
		want := Norm(l)
		mixed := append(slices.Clone(l), l...)
		chance.Shuffle(len(mixed), func(i, j int) { mixed[i], mixed[j] = mixed[j], mixed[i] })
		if got := Norm(mixed); !slices.Equal(got, want) {
			t.Fatalf("Norm(%v): %v, want %v", mixed, got, want)
		}
		if got := Norm(want); !slices.Equal(got, want) {
			t.Fatalf("Norm(%v): %v", want, got)
		}
	}
}

// P1.2: Union and Meet.
func TestUnionMeet(t *testing.T) {
	for _, x := range []struct{ a, b, union, meet []api.Span }{
		{nil, nil, nil, nil},
		{nil, set(3, 2), nil, nil},
		{set(1, 2), nil, set(1, 2), nil},
		{set(1, 2), set(3, 4), set(1, 4), nil},
		{set(1, 2), set(4, 5), set(1, 2, 4, 5), nil},
		{set(1, 4), set(4, 5), set(1, 5), set(4, 4)},
		{set(1, 9), set(3, 4, 6, 7), set(1, 9), set(3, 4, 6, 7)},
		{set(6, 7, 3, 4), set(1, 9), set(1, 9), set(3, 4, 6, 7)},
		{set(1, 3, 5, 9), set(2, 6, 8, 12), set(1, 12), set(2, 3, 5, 6, 8, 9)},
		{set(1, 3, 4, 9), set(2, 5, 6, 7), set(1, 9), set(2, 7)},
		{set(0, 0, last, last), set(0, 0), set(0, 0, last, last), set(0, 0)},
		{set(0, 0, last, last), set(1, last), all(), set(last, last)},
		{all(), all(), all(), all()},
		{all(), set(last, 0), all(), nil},
	} {
		for _, turned := range []bool{false, true} {
			a, b := x.a, x.b
			if turned {
				a, b = b, a
			}
			if got := Union(a, b); !slices.Equal(got, x.union) {
				t.Errorf("Union(%v, %v): %v, want %v", a, b, got, x.union)
			}
			if got := Meet(a, b); !slices.Equal(got, x.meet) {
				t.Errorf("Meet(%v, %v): %v, want %v", a, b, got, x.meet)
			}
		}
	}
	many := lists()
	for _, a := range many {
		for _, b := range many {
			points := edges(a, b)
			holds(t, "Union", Union(a, b), points, func(n uint32) bool { return has(a, n) || has(b, n) })
			holds(t, "Meet", Meet(a, b), points, func(n uint32) bool { return has(a, n) && has(b, n) })
		}
	}
}

// P1.2: Not.
func TestNot(t *testing.T) {
	for _, x := range []struct{ a, want []api.Span }{
		{nil, all()},
		{set(9, 8), all()},
		{all(), nil},
		{set(0, 5, 6, last), nil},
		{set(0, 4), set(5, last)},
		{set(0, 0), set(1, last)},
		{set(last, last), set(0, last-1)},
		{set(1, last), set(0, 0)},
		{set(0, last-1), set(last, last)},
		{set(1, last-1), set(0, 0, last, last)},
		{set(7, 9, 1, 2, 3, 4), set(0, 0, 5, 6, 10, last)},
	} {
		if got := Not(x.a); !slices.Equal(got, x.want) {
			t.Errorf("Not(%v): %v, want %v", x.a, got, x.want)
		}
	}
	for _, a := range lists() {
		holds(t, "Not", Not(a), edges(a), func(n uint32) bool { return !has(a, n) })
	}
}

// P1.3: Atoms.
func TestAtoms(t *testing.T) {
	for _, x := range []struct {
		l    [][]api.Span
		want []api.Span
	}{
		{nil, all()},
		{[][]api.Span{}, all()},
		{[][]api.Span{nil}, all()},
		{[][]api.Span{nil, {}, set(9, 8)}, all()},
		{[][]api.Span{all()}, all()},
		{[][]api.Span{set(0, 5, 6, last)}, all()},
		{[][]api.Span{set(0, 5), set(6, last)}, set(0, 5, 6, last)},
		{[][]api.Span{set(2, 5), set(4, 9)}, set(0, 1, 2, 3, 4, 5, 6, 9, 10, last)},
		{[][]api.Span{set(2, 5), set(2, 5), set(4, 5, 2, 3)}, set(0, 1, 2, 5, 6, last)},
		{[][]api.Span{set(2, 5, 4, 9)}, set(0, 1, 2, 9, 10, last)},
		{[][]api.Span{set(7, 7, 3, 3)}, set(0, 2, 3, 3, 4, 6, 7, 7, 8, last)},
		{[][]api.Span{set(0, 0), set(last, last)}, set(0, 0, 1, last-1, last, last)},
		{[][]api.Span{set(1, last)}, set(0, 0, 1, last)},
		{[][]api.Span{set(0, last-1)}, set(0, last-1, last, last)},
	} {
		if got := Atoms(x.l); !slices.Equal(got, x.want) {
			t.Errorf("Atoms(%v): %v, want %v", x.l, got, x.want)
		}
	}
	many := lists()
	for i := range many {
		for n := range 5 {
			asksAtoms(t, many[i:min(i+n, len(many))])
		}
	}
}

// asksAtoms holds Atoms against its words: all numbers, rising, alike within a span, unlike from one to the next.
func asksAtoms(t *testing.T, l [][]api.Span) {
	t.Helper()
	atoms := Atoms(l)
	if len(atoms) == 0 || atoms[0].Lo != 0 || atoms[len(atoms)-1].Hi != last {
		t.Fatalf("Atoms(%v): %v", l, atoms)
	}
	for i, s := range atoms {
		if s.Lo > s.Hi || i > 0 && s.Lo-1 != atoms[i-1].Hi {
			t.Fatalf("Atoms(%v): %v: place %d", l, atoms, i)
		}
		if i > 0 && alike(l, s.Lo, atoms[i-1].Lo) {
			t.Fatalf("Atoms(%v): %v: more than need be at place %d", l, atoms, i)
		}
		for _, n := range edges(l...) {
			if s.Lo <= n && n <= s.Hi && !alike(l, s.Lo, n) {
				t.Fatalf("Atoms(%v): %v: %d is unlike %d", l, atoms, n, s.Lo)
			}
		}
	}
}

// alike says whether each set has both numbers or neither.
func alike(l [][]api.Span, m, n uint32) bool {
	return !slices.ContainsFunc(l, func(s []api.Span) bool { return has(s, m) != has(s, n) })
}

// P1.4: the laws of sets.
func TestLaws(t *testing.T) {
	chance := rand.New(rand.NewPCG(5, 6))
	many := lists()
	for range 20000 {
		a, b, c := many[chance.IntN(len(many))], many[chance.IntN(len(many))], many[chance.IntN(len(many))]
		for _, law := range []struct {
			name        string
			left, right []api.Span
		}{
			{"not of not", Not(Not(a)), Norm(a)},
			{"meet by union", Meet(a, b), Not(Union(Not(a), Not(b)))},
			{"union by meet", Union(a, b), Not(Meet(Not(a), Not(b)))},
			{"union turned", Union(a, b), Union(b, a)},
			{"meet turned", Meet(a, b), Meet(b, a)},
			{"union of three", Union(a, Union(b, c)), Union(Union(a, b), c)},
			{"meet of three", Meet(a, Meet(b, c)), Meet(Meet(a, b), c)},
			{"meet spread", Meet(a, Union(b, c)), Union(Meet(a, b), Meet(a, c))},
			{"union spread", Union(a, Meet(b, c)), Meet(Union(a, b), Union(a, c))},
			{"union takes in", Union(a, Meet(a, b)), Norm(a)},
			{"meet takes in", Meet(a, Union(a, b)), Norm(a)},
			{"union with itself", Union(a, a), Norm(a)},
			{"meet with itself", Meet(a, a), Norm(a)},
			{"union with nothing", Union(a, nil), Norm(a)},
			{"meet with nothing", Meet(a, nil), nil},
			{"union with all", Union(a, all()), all()},
			{"meet with all", Meet(a, all()), Norm(a)},
			{"union with not", Union(a, Not(a)), all()},
			{"meet with not", Meet(a, Not(a)), nil},
		} {
			if !slices.Equal(law.left, law.right) {
				t.Fatalf("%s: %v %v %v: %v, %v", law.name, a, b, c, law.left, law.right)
			}
		}
	}
}

// roomy is a list in an array with spare room behind it, and the whole array.
func roomy(l []api.Span) (list, whole []api.Span) {
	whole = append(slices.Clone(l), set(11, 22, 33, 44, 55, 66)...)
	return whole[:len(l)], whole
}

// spoil writes over a list and all its spare room.
func spoil(l []api.Span) {
	l = l[:cap(l)]
	for i := range l {
		l[i] = api.Span{Lo: 77, Hi: 7}
	}
}

// calls is every call that answers a list, each by two sets.
func calls() []func(a, b []api.Span) []api.Span {
	return []func(a, b []api.Span) []api.Span{
		func(a, b []api.Span) []api.Span { In(a, 5); In(b, last); return nil },
		func(a, b []api.Span) []api.Span { return Norm(a) },
		func(a, b []api.Span) []api.Span { return Not(a) },
		func(a, b []api.Span) []api.Span { return Atoms([][]api.Span{a, b}) },
		Union,
		Meet,
	}
}

// Rule 4: what is handed in stays as it was, its spare room too, even when the answer is written over.
func TestArgumentsStay(t *testing.T) {
	many := lists()
	for i, call := range calls() {
		for j := range many {
			a, wholeA := roomy(many[j])
			b, wholeB := roomy(many[(j+1)%len(many)])
			wasA, wasB := slices.Clone(wholeA), slices.Clone(wholeB)
			got := call(a, b)
			want := slices.Clone(got)
			again := call(a, b)
			spoil(got)
			if !slices.Equal(wholeA, wasA) || !slices.Equal(wholeB, wasB) {
				t.Fatalf("call %d changes %v %v to %v %v", i, wasA, wasB, wholeA, wholeB)
			}
			if spoil(wholeA); !slices.Equal(again, want) {
				t.Fatalf("call %d of %v: the answer isn't new memory", i, wasA)
			}
			if spoil(wholeB); !slices.Equal(again, want) {
				t.Fatalf("call %d of %v: the answer isn't new memory", i, wasB)
			}
		}
	}
}

// Rule 4: the list of sets that Atoms is handed stays too.
func TestAtomsKeepsItsSets(t *testing.T) {
	whole := [][]api.Span{set(5, 7, 1, 2), set(9, 8), set(3, 3)}
	Atoms(whole[:2])
	for i, want := range [][]api.Span{set(5, 7, 1, 2), set(9, 8), set(3, 3)} {
		if !slices.Equal(whole[i], want) {
			t.Errorf("set %d is now %v", i, whole[i])
		}
	}
}

// P1: every call ends on many spans too.
func TestMany(t *testing.T) {
	const count = 100000
	var a, b []api.Span
	var sets [][]api.Span
	for i := range uint32(count) {
		s := api.Span{Lo: 4 * (count - i), Hi: 4*(count-i) + 1}
		a = append(a, s)
		b = append(b, api.Span{Lo: s.Lo + 1, Hi: s.Hi + 1})
		sets = append(sets, []api.Span{s})
	}
	for i, x := range []struct{ got, want int }{
		{len(Norm(a)), count},
		{len(Union(a, b)), count},
		{len(Meet(a, b)), count},
		{len(Not(a)), count + 1},
		{len(Atoms(sets)), 2*count + 1},
		{len(Atoms([][]api.Span{a})), 2*count + 1},
	} {
		if x.got != x.want {
			t.Errorf("call %d: %d spans, want %d", i, x.got, x.want)
		}
	}
}
