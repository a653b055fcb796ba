package pos

import (
	"math"
	"math/rand/v2"
	"slices"
	"testing"

	"dragoman/api"
	"dragoman/pat"
	"dragoman/pattest"
)

// ofRight is a right pattern by its positions.
func ofRight(t *testing.T, p api.Pat) Pos {
	x, e := Of(p)
	if e != api.OK {
		t.Fatalf("Of(%v): %d", p, e)
	}
	return x
}

// P8.1: a pattern by its positions.
func TestOf(t *testing.T) {
	a, b, c := num(1), num(2), num(3)
	none := [][]int{nil, nil}
	for _, x := range []struct {
		p           api.Pat
		empty       bool
		first, last []int
		follow      [][]int
	}{
		{a, false, []int{0}, []int{0}, [][]int{nil}},
		{one(), false, []int{0}, []int{0}, [][]int{nil}},
		{cat(), true, nil, nil, nil},
		{alt(), false, nil, nil, nil},
		{star(cat()), true, nil, nil, nil},
		{star(alt()), true, nil, nil, nil},
		{star(a), true, []int{0}, []int{0}, [][]int{{0}}},
		{star(star(a)), true, []int{0}, []int{0}, [][]int{{0}}},
		{tower(40), true, []int{0}, []int{0}, [][]int{{0}}},
		{cat(a, star(b)), false, []int{0}, []int{0, 1}, [][]int{{1}, {1}}},
		{cat(star(a), b), false, []int{0, 1}, []int{1}, [][]int{{0, 1}, nil}},
		{cat(a, b, c), false, []int{0}, []int{2}, [][]int{{1}, {2}, nil}},
		{cat(a, cat(), b), false, []int{0}, []int{1}, [][]int{{1}, nil}},
		{cat(cat(a, b), c), false, []int{0}, []int{2}, [][]int{{1}, {2}, nil}},
		{cat(a, cat(b, c)), false, []int{0}, []int{2}, [][]int{{1}, {2}, nil}},
		{cat(a, maybe(b), c), false, []int{0}, []int{2}, [][]int{{1, 2}, {2}, nil}},
		{cat(maybe(a), maybe(b)), true, []int{0, 1}, []int{0, 1}, [][]int{{1}, nil}},
		{cat(maybe(a), b, maybe(c)), false, []int{0, 1}, []int{1, 2}, [][]int{{1}, {2}, nil}},
		{cat(star(a), star(b), star(c)), true, []int{0, 1, 2}, []int{0, 1, 2}, [][]int{{0, 1, 2}, {1, 2}, {2}}},
		{cat(cat(star(a), star(b)), c), false, []int{0, 1, 2}, []int{2}, [][]int{{0, 1, 2}, {1, 2}, nil}},
		{alt(a, b, c), false, []int{0, 1, 2}, []int{0, 1, 2}, [][]int{nil, nil, nil}},
		{alt(a, cat(), b), true, []int{0, 1}, []int{0, 1}, none},
		{alt(cat(a, b), c), false, []int{0, 2}, []int{1, 2}, [][]int{{1}, nil, nil}},
		{alt(a, star(b)), true, []int{0, 1}, []int{0, 1}, [][]int{nil, {1}}},
		{star(alt(cat(a, b), c)), true, []int{0, 2}, []int{1, 2}, [][]int{{1}, {0, 2}, {0, 2}}},
		{star(cat(a, b)), true, []int{0}, []int{1}, [][]int{{1}, {0}}},
		{star(cat(star(a), star(b))), true, []int{0, 1}, []int{0, 1}, [][]int{{0, 1}, {0, 1}}},
		{star(cat(maybe(a), star(cat(b, c)))), true, []int{0, 1}, []int{0, 2}, [][]int{{0, 1}, {2}, {0, 1}}},
		{cat(star(alt(a, b)), star(alt(b, a))), true, []int{0, 1, 2, 3}, []int{0, 1, 2, 3}, [][]int{{0, 1, 2, 3}, {0, 1, 2, 3}, {2, 3}, {2, 3}}},
	} {
		got := ofRight(t, x.p)
		want := Pos{Sets: got.Sets, Empty: x.empty, First: x.first, Last: x.last, Follow: x.follow}
		if !same(got, want) || len(got.Sets) != len(x.follow) {
			t.Errorf("Of(%v): %v, want %v", x.p, got, want)
		}
	}
}

// P8.1: what takes nothing counts by the words of the parts: neither Empty, nor with a position.
func TestOfNothing(t *testing.T) {
	a, b := num(1), num(2)
	for _, x := range []struct {
		p           api.Pat
		empty       bool
		first, last []int
		follow      [][]int
	}{
		{cat(a, alt(), b), false, []int{0}, []int{1}, [][]int{nil, nil}},
		{cat(a, alt()), false, []int{0}, nil, [][]int{nil}},
		{cat(alt(), a), false, nil, []int{0}, [][]int{nil}},
		{cat(star(a), alt(), star(b)), false, []int{0}, []int{1}, [][]int{{0}, {1}}},
		{cat(a, star(alt()), b), false, []int{0}, []int{1}, [][]int{{1}, nil}},
		{star(cat(a, alt(), b)), true, []int{0}, []int{1}, [][]int{nil, {0}}},
		{cat(a, one(), b), false, []int{0}, []int{2}, [][]int{{1}, {2}, nil}},
		{cat(a, one(9, 8), star(one())), false, []int{0}, []int{1, 2}, [][]int{{1}, {2}, {2}}},
	} {
		got := ofRight(t, x.p)
		want := Pos{Sets: got.Sets, Empty: x.empty, First: x.first, Last: x.last, Follow: x.follow}
		if !same(got, want) {
			t.Errorf("Of(%v): %v, want %v", x.p, got, want)
		}
	}
}

// P8.1: each position's Set is in its one form, and stands where its One stands from the left to the right.
func TestOfSets(t *testing.T) {
	p := cat(alt(one(9, 12, 3, 3, 4, 4), star(one())), one(9, 8), star(alt(cat(), one(0, last, 5, 5))), one(last, last, 0, 0))
	want := [][]api.Span{one(3, 4, 9, 12).Set, nil, nil, one(0, last).Set, one(0, 0, last, last).Set}
	if x := ofRight(t, p); !slices.EqualFunc(x.Sets, want, slices.Equal) {
		t.Error(x.Sets)
	}
	full := api.Pat{Kind: api.One}
	for n := range uint32(256) {
		full.Set = append(full.Set, api.Span{Lo: 2 * (255 - n), Hi: 2 * (255 - n)})
	}
	x := ofRight(t, full)
	for n := range uint32(256) {
		if x.Sets[0][n] != (api.Span{Lo: 2 * n, Hi: 2 * n}) {
			t.Fatal(n, x.Sets[0][n])
		}
	}
}

// P8.1: Of by the document's words.
func TestOfByWords(t *testing.T) {
	for _, p := range patterns(5000) {
		if got, want := ofRight(t, p), byWords(p); !same(got, want) {
			t.Fatalf("Of(%v): %v, want %v", p, got, want)
		}
	}
}

// P8.1: a path of positions is taken, if and only if the lists say so: it begins with First, goes on with Follow, ends with Last.
func TestOfTellsPaths(t *testing.T) {
	chance := rand.New(rand.NewPCG(83, 84))
	for range 300 {
		p, n := numbered(pattest.Drawn(chance.IntN, 4))
		if n > 6 {
			continue
		}
		var all []uint32
		for i := range n {
			all = append(all, uint32(i))
		}
		x := ofRight(t, p)
		for _, l := range pattest.Paths(4, all...) {
			if got := listed(x, l); got != pat.Match(p, l) {
				t.Fatalf("%v at %v: %v", p, l, got)
			}
		}
	}
}

// listed says whether a path of positions is one that the lists let be.
func listed(x Pos, l []uint32) bool {
	if len(l) == 0 {
		return x.Empty
	}
	may := slices.Contains(x.First, int(l[0])) && slices.Contains(x.Last, int(l[len(l)-1]))
	for i := 1; i < len(l); i++ {
		may = may && slices.Contains(x.Follow[l[i-1]], int(l[i]))
	}
	return may
}

// P8.1: a pattern that isn't right has no positions, and that is told soon, however much stands in it.
func TestOfForm(t *testing.T) {
	for i, p := range append(pattest.Wrong(), pattest.Endless()...) {
		if x, e := Of(p); e != api.ErrForm || !same(x, Pos{}) {
			t.Errorf("%d: %v %d", i, x, e)
		}
	}
}

// P8.1: the largest patterns that are right.
func TestOfLargest(t *testing.T) {
	row := ofRight(t, cat(times(199, num(1))...))
	if !slices.Equal(row.First, []int{0}) || !slices.Equal(row.Last, []int{198}) || len(row.Follow) != 199 {
		t.Error(row.First, row.Last, len(row.Follow))
	}
	all := make([]int, 198)
	for i := range all {
		all[i] = i
	}
	each := ofRight(t, star(alt(times(198, num(1))...)))
	if !slices.Equal(each.First, all) || !slices.Equal(each.Last, all) || len(each.Follow) != 198 {
		t.Error(each.First, each.Last, len(each.Follow))
	}
	deep := alt(times(162, num(1))...)
	for range 37 {
		deep = star(deep)
	}
	for _, x := range []Pos{each, ofRight(t, deep), ofRight(t, star(cat(times(99, star(num(1)))...)))} {
		for i, l := range x.Follow {
			if !slices.Equal(l, all[:len(x.Follow)]) {
				t.Fatal(i, l)
			}
		}
	}
}

// P8.2: is there a way through the positions?
func TestRun(t *testing.T) {
	pairs := star(alt(cat(num(1), num(2)), num(3)))
	twos := cat(num(1), star(num(2)))
	for _, x := range []struct {
		p    api.Pat
		l    []uint32
		want bool
	}{
		{pairs, nil, true},
		{pairs, []uint32{}, true},
		{pairs, path(3), true},
		{pairs, path(1, 2, 3, 1, 2), true},
		{pairs, path(1), false},
		{pairs, path(2), false},
		{pairs, path(1, 3), false},
		{pairs, path(1, 2, 4), false},
		{pairs, path(4), false},
		{pairs, path(0), false},
		{twos, nil, false},
		{twos, path(1), true},
		{twos, path(1, 2, 2, 2), true},
		{twos, path(1, 1), false},
		{twos, path(2), false},
		{cat(), nil, true},
		{cat(), path(1), false},
		{alt(), nil, false},
		{alt(), path(1), false},
		{one(), path(0), false},
		{one(0, last), path(last), true},
		{one(0, last), path(0), true},
		{one(0, last), nil, false},
		{one(5, 6), path(4), false},
		{one(5, 6), path(5), true},
		{one(5, 6), path(6), true},
		{one(5, 6), path(7), false},
		{one(9, 9, 6, 5, 1, 2), path(2), true},
		{one(9, 9, 6, 5, 1, 2), path(5), false},
		{cat(num(1), alt(), num(2)), path(1, 2), false},
		{cat(num(1), one(), num(2)), path(1, 2), false},
		{cat(num(1), one(), num(2)), path(1, 1, 2), false},
		{cat(maybe(num(1)), num(1)), path(1), true},
		{cat(maybe(num(1)), num(1)), path(1, 1), true},
		{cat(maybe(num(1)), num(1)), path(1, 1, 1), false},
	} {
		if got := Run(ofRight(t, x.p), x.l); got != x.want {
			t.Errorf("%v at %v: %v", x.p, x.l, got)
		}
	}
}

// P8.2, P8.3: Run by the document's words, and by the pattern itself, at all short paths.
func TestRunByWords(t *testing.T) {
	paths := pattest.Paths(4, 0, 1, 2, last)
	for _, p := range patterns(600) {
		x := ofRight(t, p)
		for _, l := range paths {
			if got := Run(x, l); got != wayByWords(x, l) || got != pat.Match(p, l) {
				t.Fatalf("%v at %v: %v", p, l, got)
			}
		}
	}
}

// P8.3: Run and the pattern at longer paths, by chance.
func TestRunLonger(t *testing.T) {
	chance := rand.New(rand.NewPCG(85, 86))
	taken := 0
	for _, p := range patterns(2000) {
		x := ofRight(t, p)
		for range 10 {
			var l []uint32
			for range 5 + chance.IntN(6) {
				l = append(l, []uint32{0, 1, 2, 3, last}[chance.IntN(5)])
			}
			got := Run(x, l)
			if got != pat.Match(p, l) {
				t.Fatalf("%v at %v: %v", p, l, got)
			}
			if got {
				taken++
			}
		}
	}
	if taken < 1000 {
		t.Error(taken)
	}
}

// P8.2: a path may have any length.
func TestRunLong(t *testing.T) {
	third := ofRight(t, star(cat(num(1), num(1), num(1))))
	all := ofRight(t, star(pat.Any()))
	row := ofRight(t, cat(times(199, num(1))...))
	wide := ofRight(t, star(alt(times(198, one(0, last))...)))
	for _, n := range []int{0, 1, 2, 3, 63, 64, 65, 127, 128, 191, 192, 198, 199, 200, 254, 255, 256, 257, 1000, 3000} {
		l := run(n, 1)
		if Run(third, l) != (n%3 == 0) || !Run(all, l) || Run(row, l) != (n == 199) || !Run(wide, l) {
			t.Error(n)
		}
	}
	for n := range 255 {
		l := run(255, 1)
		l[n] = 2
		ahead := ofRight(t, cat(star(num(1)), num(2), star(num(1))))
		if !Run(ahead, l) || Run(third, l) || !Run(all, l) {
			t.Error(n)
		}
	}
}

// P8.2: each of the positions that a pattern may have counts.
func TestRunEachPosition(t *testing.T) {
	for n := range 199 {
		l := times(199, num(1))
		l[n] = num(2)
		x := ofRight(t, cat(l...))
		want := run(199, 1)
		want[n] = 2
		if !Run(x, want) || Run(x, run(199, 1)) {
			t.Error(n)
		}
	}
}

// P1: Run of what Of never answered ends, and doesn't panic.
func TestRunOther(t *testing.T) {
	whole, odd := one(0, last).Set, []int{math.MinInt, -1, 0, 1, 2, 199, 200, 255, 256, math.MaxInt}
	sets := func(n int) [][]api.Span { return slices.Repeat([][]api.Span{whole}, n) }
	for _, n := range []int{0, 1, 2, 3, 199, 200, 201, 255, 256, 257, 100000} {
		for _, m := range []int{0, 1, 199, 256, 100000} {
			x := Pos{Sets: sets(n), First: odd, Last: odd, Follow: slices.Repeat([][]int{odd}, m)}
			for _, l := range [][]uint32{nil, path(1), path(1, 2), run(300, 1)} {
				Run(x, l)
				Run(Pos{Sets: x.Sets, First: odd}, l)
				Run(Pos{Sets: x.Sets, Follow: x.Follow}, l)
			}
		}
	}
	if Run(Pos{First: []int{0}, Last: []int{0}}, path(1)) || Run(Pos{}, nil) || Run(Pos{}, path(1)) {
		t.Error("a path is taken without a position")
	}
}

// Rule 4: what is handed in stays as it was, its spare room too.
func TestArgumentsStay(t *testing.T) {
	for _, p := range append(patterns(300), one(9, 12, 3, 3, 4, 4), api.Pat{Kind: 7}) {
		stays := pattest.Stays(p, func(given api.Pat) {
			x, _ := Of(given)
			overwrite(x)
		})
		if !stays {
			t.Fatal(p)
		}
	}
	for _, p := range patterns(100) {
		x, want := ofRight(t, p), ofRight(t, p)
		l := append(make([]uint32, 0, 9), 1, 2, 1)
		x.First, x.Last = append(x.First, 7)[:len(x.First)], append(x.Last, 7)[:len(x.Last)]
		Run(x, l)
		if !same(x, want) || !slices.Equal(l[:9], path(1, 2, 1, 0, 0, 0, 0, 0, 0)) {
			t.Fatal(p, x, l[:9])
		}
		if x.First[:len(x.First)+1][len(x.First)] != 7 || x.Last[:len(x.Last)+1][len(x.Last)] != 7 {
			t.Fatal(p, "spare room")
		}
	}
}

// filled is a list whose entries, its spare room too, are all one.
func filled[T any](l []T, with T) []T {
	for i := range l[:cap(l)] {
		l[:cap(l)][i] = with
	}
	return l
}

// overwrite fills all lists of an answer with something else, their spare room too.
func overwrite(x Pos) {
	for _, l := range x.Sets {
		filled(l, api.Span{Lo: 99, Hi: 99})
	}
	for _, l := range append(slices.Clone(x.Follow), x.First, x.Last) {
		filled(l, 99)
	}
	filled(x.Sets, one(99, 99).Set)
	filled(x.Follow, []int{99})
}

// Rule 4: no two lists of an answer share memory, their spare room too, nor do two answers.
func TestOfIsNew(t *testing.T) {
	for _, p := range append(patterns(200), cat(star(num(1)), star(num(2)), num(3)), star(star(alt(num(1), num(2), num(3))))) {
		want := ofRight(t, p)
		for i := range len(want.Follow) + 2 {
			x := ofRight(t, p)
			lists := append(slices.Clone(x.Follow), x.First, x.Last)
			filled(lists[i], 99)
			switch { // all but the list that has been filled are as they were
			case i < len(x.Follow):
				x.Follow[i] = want.Follow[i]
			case i == len(x.Follow):
				x.First = want.First
			default:
				x.Last = want.Last
			}
			if !same(x, want) {
				t.Fatalf("%v: list %d is shared", p, i)
			}
		}
		for i := range want.Sets {
			x := ofRight(t, p)
			filled(x.Sets[i], api.Span{Lo: 99, Hi: 99})
			x.Sets[i] = want.Sets[i]
			if !same(x, want) {
				t.Fatalf("%v: Set %d is shared", p, i)
			}
		}
		overwrite(want)
		if x := ofRight(t, p); len(x.Sets) > 0 && same(x, want) {
			t.Fatalf("%v: two answers share memory", p)
		}
	}
}

// Rule 4: parts that share memory have Sets that don't.
func TestOfShared(t *testing.T) {
	shared := one(1, 2, 5, 7)
	x := ofRight(t, cat(shared, star(shared), shared))
	filled(x.Sets[0], api.Span{})
	if want := one(1, 2, 5, 7).Set; !slices.Equal(shared.Set, want) || !slices.Equal(x.Sets[1], want) || !slices.Equal(x.Sets[2], want) {
		t.Error(shared, x.Sets)
	}
}

// Rule 3: nil and empty lists are one.
func TestEmptyLists(t *testing.T) {
	hollow := api.Pat{Kind: api.Cat, Set: []api.Span{}, Subs: []api.Pat{}}
	none := api.Pat{Kind: api.One, Set: []api.Span{}, Subs: []api.Pat{}}
	x := ofRight(t, alt(hollow, none))
	if !same(x, Pos{Sets: [][]api.Span{nil}, Empty: true, First: []int{0}, Last: []int{0}, Follow: [][]int{nil}}) {
		t.Error(x)
	}
	if !Run(x, []uint32{}) || Run(x, path(1)) {
		t.Error("Run")
	}
}
