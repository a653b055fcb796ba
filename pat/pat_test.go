package pat

import (
	"math"
	"math/rand/v2"
	"slices"
	"testing"

	"dragoman/api"
	"dragoman/pattest"
)

// The patterns of the tests, written short.
var (
	one, num = pattest.One, pattest.Num
	cat, alt = pattest.Cat, pattest.Alt
	star     = pattest.Star
	times    = pattest.Row
	tower    = pattest.Tower
	same     = pattest.Same
)

// set writes spans as their ends: set(1, 2, 5, 7) is {1 2} {5 7}.
func set(ends ...uint32) []api.Span { return one(ends...).Set }

// path writes a path.
func path(l ...uint32) []uint32 { return l }

// run is a path of one number n times.
func run(n int, of uint32) []uint32 { return slices.Repeat([]uint32{of}, n) }

// placed is a part and how deep it stands.
type placed struct {
	p    api.Pat
	deep int
}

// allParts is a pattern's parts, found level by level.
func allParts(p api.Pat) []placed {
	out := []placed{{p, 1}}
	for i := 0; i < len(out); i++ {
		for _, s := range out[i].p.Subs {
			out = append(out, placed{s, out[i].deep + 1})
		}
	}
	return out
}

// rightByWords is the document's own word for a right pattern.
func rightByWords(p api.Pat) bool {
	parts := allParts(p)
	for _, x := range parts {
		isOne := x.p.Kind == 1
		switch {
		case x.p.Kind < 1 || x.p.Kind > 4,
			isOne && len(x.p.Subs) > 0,
			isOne && len(x.p.Set) > 256,
			!isOne && len(x.p.Set) > 0,
			x.p.Kind == 4 && len(x.p.Subs) != 1,
			x.deep > 40:
			return false
		}
	}
	return len(parts) <= 200
}

// takesByWords is the document's own word for a pattern that takes a path, tried with every way to cut it.
func takesByWords(p api.Pat, l []uint32) bool {
	switch p.Kind {
	case api.One:
		return len(l) == 1 && slices.ContainsFunc(p.Set, func(s api.Span) bool { return s.Lo <= l[0] && l[0] <= s.Hi })
	case api.Cat:
		if len(p.Subs) == 0 {
			return len(l) == 0
		}
		for i := range len(l) + 1 {
			if takesByWords(p.Subs[0], l[:i]) && takesByWords(cat(p.Subs[1:]...), l[i:]) {
				return true
			}
		}
	case api.Alt:
		return slices.ContainsFunc(p.Subs, func(s api.Pat) bool { return takesByWords(s, l) })
	case api.Star:
		if len(l) == 0 {
			return true
		}
		for i := range l {
			if takesByWords(p.Subs[0], l[:i+1]) && takesByWords(p, l[i+1:]) {
				return true
			}
		}
	}
	return false
}

// shortPaths is all paths of some numbers that drawn sets tell apart, up to a length.
func shortPaths(most int) [][]uint32 {
	return pattest.Paths(most, 0, 1, 2, last)
}

// patterns is many right patterns (the same ones at each run).
func patterns(n int) []api.Pat {
	return pattest.Patterns(rand.New(rand.NewPCG(5, 6)).IntN, n)
}

// P5.1: Size.
func TestSize(t *testing.T) {
	for _, x := range []struct {
		p           api.Pat
		parts, deep int
	}{
		{api.Pat{}, 1, 1},
		{cat(), 1, 1},
		{Any(), 1, 1},
		{star(cat()), 2, 2},
		{cat(num(1), star(cat())), 4, 3},
		{cat(star(star(cat())), num(1)), 5, 4},
		{alt(num(1), num(2), num(3)), 4, 2},
		{tower(40), 40, 40},
		{tower(41), 41, 41},
		{cat(times(500, cat())...), 501, 2},
		{api.Pat{Kind: 9, Set: set(1, 2), Subs: []api.Pat{{Kind: api.One, Subs: []api.Pat{{}}}}}, 3, 3},
	} {
		if parts, deep := Size(x.p); parts != x.parts || deep != x.deep {
			t.Errorf("Size(%v): %d %d, want %d %d", x.p, parts, deep, x.parts, x.deep)
		}
	}
	for _, p := range append(patterns(500), pattest.Wrong()...) {
		all := allParts(p)
		if parts, deep := Size(p); parts != len(all) || deep != all[len(all)-1].deep {
			t.Fatalf("Size(%v): %d %d, want %d %d", p, parts, deep, len(all), all[len(all)-1].deep)
		}
	}
}

// P5.1, P1: Size goes as deep as the document's bound of parts within one another.
func TestSizeDeep(t *testing.T) {
	if parts, deep := Size(tower(65536)); parts != 65536 || deep != 65536 {
		t.Error(parts, deep)
	}
}

// P5.1: Right.
func TestRight(t *testing.T) {
	for i, x := range []struct {
		p    api.Pat
		want bool
	}{
		{cat(), true},
		{alt(), true},
		{one(), true},
		{one(9, 8), true},
		{star(alt()), true},
		{api.Pat{Kind: api.One, Set: make([]api.Span, 256)}, true},
		{api.Pat{Kind: api.One, Set: make([]api.Span, 257)}, false},
		{cat(times(199, api.Pat{Kind: api.One, Set: make([]api.Span, 256)})...), true},
		{api.Pat{Kind: api.Cat, Set: []api.Span{}, Subs: []api.Pat{}}, true},
		{api.Pat{Kind: api.One, Set: []api.Span{}, Subs: []api.Pat{}}, true},
		{api.Pat{Kind: api.Star, Set: []api.Span{}, Subs: []api.Pat{}}, false},
		{tower(40), true},
		{tower(41), false},
		{cat(cat(), tower(39)), true},
		{cat(tower(40), cat()), false},
		{alt(cat(), tower(40)), false},
		{cat(times(199, num(1))...), true},
		{cat(times(200, num(1))...), false},
		{alt(append(times(197, num(1)), star(cat()))...), true},
		{alt(append(times(198, num(1)), star(cat()))...), false},
		{alt(append([]api.Pat{star(cat())}, times(198, num(1))...)...), false},
		{cat(times(66, star(num(1)))...), true},
		{cat(times(99, star(num(1)))...), true},
		{cat(times(100, star(num(1)))...), false},
	} {
		if got := Right(x.p); got != x.want {
			t.Errorf("%d: Right: %v", i, got)
		}
	}
	for _, p := range pattest.Wrong() {
		if Right(p) {
			t.Errorf("Right(%v)", p)
		}
	}
	for _, p := range append(patterns(500), pattest.Wrong()...) {
		if got := Right(p); got != rightByWords(p) {
			t.Fatalf("Right(%v): %v", p, got)
		}
	}
}

// P1: what isn't right is told soon, however much stands in it.
func TestEndless(t *testing.T) {
	for i, p := range pattest.Endless() {
		_, e := Times(p, 1, 1)
		if Right(p) || Empty(p) || Match(p, path(1)) || e != api.ErrForm {
			t.Error(i)
		}
	}
}

// P5.1: Match.
func TestMatch(t *testing.T) {
	pair := cat(num(1), num(2))
	for _, x := range []struct {
		p    api.Pat
		l    []uint32
		want bool
	}{
		{one(5, 6), path(5), true},
		{one(5, 6), path(6), true},
		{one(5, 6), path(4), false},
		{one(5, 6), path(7), false},
		{one(5, 6), nil, false},
		{one(5, 6), path(5, 5), false},
		{one(9, 9, 6, 5, 1, 2), path(2), true},
		{one(9, 9, 6, 5, 1, 2), path(9), true},
		{one(9, 9, 6, 5, 1, 2), path(5), false},
		{one(), path(0), false},
		{one(), nil, false},
		{one(0, 0), path(0), true},
		{one(last, last), path(last), true},
		{one(last, last), path(last - 1), false},
		{cat(), nil, true},
		{cat(), []uint32{}, true},
		{cat(), path(1), false},
		{cat(num(5)), path(5), true},
		{pair, path(1, 2), true},
		{pair, path(2, 1), false},
		{pair, path(1), false},
		{pair, path(2), false},
		{pair, path(1, 2, 2), false},
		{cat(num(1), alt(), num(2)), path(1, 2), false},
		{cat(num(1), cat(), num(2)), path(1, 2), true},
		{alt(), nil, false},
		{alt(), path(1), false},
		{alt(num(1), pair, cat()), nil, true},
		{alt(num(1), pair, cat()), path(1), true},
		{alt(num(1), pair, cat()), path(1, 2), true},
		{alt(num(1), pair, cat()), path(2), false},
		{cat(alt(num(1), pair), num(2)), path(1, 2), true},
		{cat(alt(num(1), pair), num(2)), path(1, 2, 2), true},
		{star(num(1)), nil, true},
		{star(num(1)), path(1), true},
		{star(num(1)), path(1, 1, 1), true},
		{star(num(1)), path(1, 2, 1), false},
		{star(pair), path(1, 2, 1, 2), true},
		{star(pair), path(1, 2, 1), false},
		{star(alt()), nil, true},
		{star(alt()), path(1), false},
		{star(one()), nil, true},
		{star(cat()), nil, true},
		{star(cat()), path(1), false},
		{star(cat(star(num(1)), star(num(2)))), path(2, 1, 1, 2), true},
		{star(cat(star(num(1)), star(num(2)))), path(2, 3), false},
		{cat(num(5), star(Any())), path(5), true},
		{cat(num(5), star(Any())), path(5, 7, 9), true},
		{cat(num(5), star(Any())), path(7), false},
		{cat(star(Any()), num(5)), path(5, 7, 9, 5), true},
		{cat(star(Any()), num(5)), path(5, 7), false},
		{cat(star(num(1)), num(1)), path(1, 1), true},
		{cat(star(num(1)), num(1)), nil, false},
		{cat(star(num(1)), star(num(1))), path(1, 1), true},
	} {
		if got := Match(x.p, x.l); got != x.want {
			t.Errorf("Match(%v, %v): %v", x.p, x.l, got)
		}
	}
}

// P5.1: Match and Empty by the document's words, at all short paths.
func TestMatchByWords(t *testing.T) {
	paths := shortPaths(4)
	for _, p := range patterns(600) {
		for _, l := range paths {
			if got := Match(p, l); got != takesByWords(p, l) {
				t.Fatalf("Match(%v, %v): %v", p, l, got)
			}
		}
		if got := Empty(p); got != takesByWords(p, nil) {
			t.Fatalf("Empty(%v): %v", p, got)
		}
	}
}

// P5.1: Match by the document's words at longer paths, by chance.
func TestMatchLonger(t *testing.T) {
	chance := rand.New(rand.NewPCG(7, 8))
	for _, p := range patterns(300) {
		for range 10 {
			var l []uint32
			for range 5 + chance.IntN(4) {
				l = append(l, uint32(chance.IntN(3)))
			}
			if got := Match(p, l); got != takesByWords(p, l) {
				t.Fatalf("Match(%v, %v): %v", p, l, got)
			}
		}
	}
}

// P5.1: paths of every length that may be, the longest one too, and beyond.
func TestMatchLong(t *testing.T) {
	third := star(cat(num(1), num(1), num(1)))
	for n := range 260 {
		may, l := n <= 255, run(n, 1)
		for i, x := range []struct {
			p    api.Pat
			l    []uint32
			want bool
		}{
			{star(Any()), l, true},
			{third, l, n%3 == 0},
			{cat(num(1), third), l, n%3 == 1},
			{alt(cat(num(1), third), cat(third, num(1), num(1))), l, n%3 != 0},
			{star(alt(cat(times(5, num(1))...), cat(times(7, num(1))...))), l, !slices.Contains([]int{1, 2, 3, 4, 6, 8, 9, 11, 13, 16, 18, 23}, n)},
			{cat(star(Any()), num(2)), append(run(max(n-1, 0), 1), 2)[:max(n, 1)], true},
			{cat(star(num(1)), num(1)), l, n > 0},
			{star(num(2)), l, n == 0},
		} {
			may := may && len(x.l) <= 255
			if got := Match(x.p, x.l); got != (x.want && may) {
				t.Errorf("%d: a path of %d: %v", i, n, got)
			}
		}
	}
}

// P5.1: each number of the longest path counts.
func TestMatchEachPlace(t *testing.T) {
	for n := range 255 {
		l := run(255, 1)
		l[n] = 2
		ahead, behind := star(num(1)), star(num(1))
		if !Match(cat(ahead, num(2), behind), l) || Match(star(num(1)), l) || Match(cat(ahead, num(2), num(2), behind), l) {
			t.Errorf("a 2 at %d", n)
		}
	}
}

// P5.1: a path that is too long is taken by nothing.
func TestMatchTooLong(t *testing.T) {
	most := cat(append(times(100, star(Any())), num(1))...)
	for _, n := range []int{256, 257, 320, 512, 100000} {
		for i, p := range []api.Pat{star(Any()), most, star(num(1)), alt(cat(), star(num(1))), cat()} {
			if Match(p, run(n, 1)) {
				t.Errorf("%d takes a path of %d", i, n)
			}
		}
	}
}

// P5.1: what isn't right takes nothing, though a part of it would.
func TestWrongTakesNothing(t *testing.T) {
	wrong := append(pattest.Wrong(),
		alt(cat(), star(Any()), api.Pat{}),
		alt(star(Any()), api.Pat{Kind: api.One, Set: make([]api.Span, 257)}),
		api.Pat{Kind: api.Cat, Set: set(1, 1)},
		star(tower(40)),
		alt(append(times(199, star(Any())), cat())...),
	)
	for _, p := range wrong {
		for _, l := range [][]uint32{nil, {}, path(0), path(1), path(1, 1)} {
			if Match(p, l) {
				t.Errorf("Match(%v, %v)", p, l)
			}
		}
		if Empty(p) {
			t.Errorf("Empty(%v)", p)
		}
	}
}

// P5.1: Empty.
func TestEmpty(t *testing.T) {
	for _, x := range []struct {
		p    api.Pat
		want bool
	}{
		{cat(), true},
		{alt(), false},
		{one(), false},
		{Any(), false},
		{star(alt()), true},
		{star(Any()), true},
		{cat(cat(), star(num(1))), true},
		{cat(cat(), num(1)), false},
		{cat(num(1), cat()), false},
		{alt(num(1), cat()), true},
		{alt(num(1), num(2)), false},
		{alt(alt(), alt(alt(), cat(cat()))), true},
	} {
		if got := Empty(x.p); got != x.want {
			t.Errorf("Empty(%v): %v", x.p, got)
		}
	}
}

// P5.1: the largest patterns that are right are looked at too.
func TestMatchLargest(t *testing.T) {
	if !Match(tower(40), run(255, 1)) || Match(tower(40), path(1, 2)) {
		t.Error("the deepest one")
	}
	wide := cat(times(199, num(1))...)
	if !Match(wide, run(199, 1)) || Match(wide, run(198, 1)) || Match(wide, run(200, 1)) {
		t.Error("the widest one")
	}
	full := api.Pat{Kind: api.One}
	for n := range uint32(256) {
		full.Set = append(full.Set, api.Span{Lo: 2 * n, Hi: 2 * n})
	}
	if !Match(full, path(510)) || !Match(full, path(0)) || Match(full, path(509)) || Match(full, path(512)) {
		t.Error("the one with most spans")
	}
}

// nested is Stars within Stars, of which each, number by number of its own, goes to where the next one begins:
// asked anew each time, the innermost one would be asked more often than there is time for.
func nested(level, levels, width int) api.Pat {
	first := uint32(level * width)
	own := one(first, first+uint32(width)-1)
	if level == levels-1 {
		return star(own)
	}
	next := num(first + uint32(width) - 1)
	return star(alt(own, cat(own, star(Any()), next, nested(level+1, levels, width))))
}

// P1: Match ends soon, whatever Stars stand in one another.
func TestMatchNested(t *testing.T) {
	p := nested(0, 13, 19)
	if !Right(p) {
		t.Fatal("not right")
	}
	l := make([]uint32, 247)
	for i := range l {
		l[i] = uint32(i)
	}
	if !Match(p, l) || Match(p, append(l, 247)) {
		t.Error("nested Stars")
	}
	many := star(cat(times(99, star(Any()))...))
	if !Match(many, run(255, 1)) {
		t.Error("Stars side by side")
	}
}

// P5.2: Any.
func TestAny(t *testing.T) {
	p := Any()
	if !same(p, one(0, last)) || !Right(p) {
		t.Fatal(p)
	}
	for _, n := range []uint32{0, 1, 65535, 65536, 1 << 31, last - 1, last} {
		if !Match(p, path(n)) || Match(p, path(n, n)) {
			t.Error(n)
		}
	}
	p.Set[0] = api.Span{Lo: 1, Hi: 1}
	if !same(Any(), one(0, last)) {
		t.Error("the answer isn't new memory")
	}
}

// P5.2: what Times puts together.
func TestTimes(t *testing.T) {
	p := alt(num(5), cat(one(1, 2, 4, 3), star(num(7))))
	maybe := alt(p, cat())
	for _, x := range []struct {
		least, most int
		want        api.Pat
	}{
		{0, 0, cat()},
		{1, 1, cat(p)},
		{2, 2, cat(p, p)},
		{0, 1, cat(maybe)},
		{0, 2, cat(maybe, maybe)},
		{1, 2, cat(p, maybe)},
		{2, 4, cat(p, p, maybe, maybe)},
		{0, -1, cat(star(p))},
		{1, -1, cat(p, star(p))},
		{3, -7, cat(p, p, p, star(p))},
		{1, math.MinInt, cat(p, star(p))},
		{2, math.MinInt, cat(p, p, star(p))},
	} {
		if got, e := Times(p, x.least, x.most); e != api.OK || !same(got, x.want) {
			t.Errorf("Times %d %d: %v %d, want %v", x.least, x.most, got, e, x.want)
		}
	}
}

// P5.2: the errors of Times, in their order.
func TestTimesErrors(t *testing.T) {
	wrong := api.Pat{}
	for _, x := range []struct {
		p           api.Pat
		least, most int
		want        api.Errno
	}{
		{cat(), -1, 0, api.ErrArg},
		{cat(), -1, -1, api.ErrArg},
		{wrong, -1, 0, api.ErrArg},
		{wrong, math.MinInt, math.MaxInt, api.ErrArg},
		{wrong, 0, 0, api.ErrForm},
		{wrong, 0, -1, api.ErrForm},
		{wrong, 3, 2, api.ErrForm},
		{wrong, math.MaxInt, math.MaxInt, api.ErrForm},
		{tower(41), 0, 0, api.ErrForm},
		{cat(), 3, 2, api.ErrArg},
		{cat(), 1, 0, api.ErrArg},
		{cat(), math.MaxInt, 0, api.ErrArg},
		{cat(), math.MaxInt, math.MaxInt - 1, api.ErrArg},
		{cat(times(199, cat())...), 3, 2, api.ErrArg},
	} {
		if got, e := Times(x.p, x.least, x.most); e != x.want || !same(got, api.Pat{}) {
			t.Errorf("Times %d %d: %v %d, want %d", x.least, x.most, got, e, x.want)
		}
	}
}

// P5.2: what comes out may be as large as a right pattern, and no larger.
func TestTimesFull(t *testing.T) {
	four := cat(cat(), cat(), cat())
	most := cat(times(199, cat())...)
	for i, x := range []struct {
		p           api.Pat
		least, most int
		want        api.Errno
	}{
		{num(1), 199, 199, api.OK},
		{num(1), 200, 200, api.ErrFull},
		{num(1), 201, 201, api.ErrFull},
		{num(1), 197, -1, api.OK},
		{num(1), 198, -1, api.ErrFull},
		{num(1), 0, 66, api.OK},
		{num(1), 0, 67, api.ErrFull},
		{num(1), 1, 67, api.OK},
		{num(1), 2, 68, api.ErrFull},
		{num(1), 196, 197, api.OK},
		{num(1), 197, 198, api.ErrFull},
		{four, 49, 49, api.OK},
		{four, 50, 50, api.ErrFull},
		{four, 48, -1, api.OK},
		{four, 49, -1, api.ErrFull},
		{four, 1 << 62, -1, api.ErrFull},
		{four, 1 << 62, 1 << 62, api.ErrFull},
		{four, 0, 1 << 62, api.ErrFull},
		{num(1), 0, math.MaxInt, api.ErrFull},
		{num(1), math.MaxInt, math.MaxInt, api.ErrFull},
		{num(1), math.MaxInt, -1, api.ErrFull},
		{num(1), math.MaxInt, math.MinInt, api.ErrFull},
		{most, 0, 0, api.OK},
		{most, 1, 1, api.ErrFull},
		{most, 0, 1, api.ErrFull},
		{most, 0, -1, api.ErrFull},
		{cat(times(198, cat())...), 1, 1, api.OK},
		{cat(times(198, cat())...), 0, -1, api.ErrFull},
		{cat(times(197, cat())...), 0, -1, api.OK},
		{cat(times(196, cat())...), 0, 1, api.OK},
		{cat(times(197, cat())...), 0, 1, api.ErrFull},
		{tower(40), 0, 0, api.OK},
		{tower(40), 1, 1, api.ErrFull},
		{tower(39), 1, 1, api.OK},
		{tower(39), 0, 1, api.ErrFull},
		{tower(39), 0, -1, api.ErrFull},
		{tower(38), 0, 1, api.OK},
		{tower(38), 0, -1, api.OK},
	} {
		got, e := Times(x.p, x.least, x.most)
		if e != x.want || e != api.OK && !same(got, api.Pat{}) || e == api.OK && !Right(got) {
			t.Errorf("%d: %d, want %d", i, e, x.want)
		}
	}
}

// P5.3: a Cat goes on where its parts end: a path is cut somewhere between what they take.
func TestCatGoesOn(t *testing.T) {
	some := patterns(60)
	for i, p := range some {
		q := some[(7*i+3)%len(some)]
		for _, l := range shortPaths(3) {
			want := false
			for n := range len(l) + 1 {
				want = want || Match(p, l[:n]) && Match(q, l[n:])
			}
			if got := Match(cat(p, q), l); got != want {
				t.Fatalf("Cat of %v and %v at %v: %v", p, q, l, got)
			}
			if got := Match(alt(p, q), l); got != (Match(p, l) || Match(q, l)) {
				t.Fatalf("Alt of %v and %v at %v: %v", p, q, l, got)
			}
		}
	}
}

// P5.3: a Star takes a path and what it takes behind that.
func TestStarGoesOn(t *testing.T) {
	paths := shortPaths(2)
	for _, p := range patterns(100) {
		again := star(p)
		if !Match(again, nil) {
			t.Fatalf("Star of %v doesn't take nothing", p)
		}
		for _, l := range paths {
			for _, m := range paths {
				if Match(p, l) && Match(again, m) && !Match(again, slices.Concat(l, m)) {
					t.Fatalf("Star of %v: %v %v", p, l, m)
				}
			}
			if got := Match(alt(cat(), cat(p, again)), l); got != Match(again, l) {
				t.Fatalf("Star of %v at %v: %v", p, l, got)
			}
		}
	}
}

// P5.3: Times takes what is made of so many.
func TestTimesTakes(t *testing.T) {
	paths := shortPaths(3)
	for _, p := range patterns(60) {
		for least := range 4 {
			for most := -1; most < 5; most++ {
				if 0 <= most && most < least {
					continue
				}
				so, e := Times(p, least, most)
				if e != api.OK {
					t.Fatalf("Times(%v, %d, %d): %d", p, least, most, e)
				}
				for _, l := range paths {
					if got := Match(so, l); got != ofSoMany(p, least, most, l) {
						t.Fatalf("Times(%v, %d, %d) at %v: %v", p, least, most, l, got)
					}
				}
			}
		}
	}
}

// ofSoMany says whether a short path is made of so many that a pattern takes.
func ofSoMany(p api.Pat, least, most int, l []uint32) bool {
	if most < 0 {
		most = least + len(l) // more of them would be nothing
	}
	for n := least; n <= most; n++ {
		if takesByWords(cat(times(n, p)...), l) {
			return true
		}
	}
	return false
}

// P5.3: so many of a number by the length of a path.
func TestTimesCounts(t *testing.T) {
	for _, x := range [][2]int{{0, 0}, {0, 66}, {60, 80}, {199, 199}, {100, -1}, {197, -1}} {
		p, e := Times(num(1), x[0], x[1])
		if e != api.OK {
			t.Fatal(x, e)
		}
		for n := range 256 {
			want := x[0] <= n && (x[1] < 0 || n <= x[1])
			if got := Match(p, run(n, 1)); got != want {
				t.Errorf("%v takes %d: %v", x, n, got)
			}
		}
	}
}

// Rule 4: what is handed in stays as it was, its spare room too.
func TestArgumentsStay(t *testing.T) {
	for _, p := range patterns(100) {
		l := append(make([]uint32, 0, 9), 1, 2, 1)
		stays := pattest.Stays(p, func(given api.Pat) {
			Size(given)
			Right(given)
			Match(given, l)
			Empty(given)
			got, _ := Times(given, 1, 3)
			pattest.Overwrite(got)
		})
		if !stays || !slices.Equal(l[:9], path(1, 2, 1, 0, 0, 0, 0, 0, 0)) {
			t.Fatal(p, l[:9])
		}
	}
}

// Rule 4: no two parts of what Times answers share memory, nor does it with its argument.
func TestTimesIsNew(t *testing.T) {
	shared := num(5)
	p := pattest.Copied(cat(shared, star(shared), alt(num(6), cat(num(7)))))
	p.Subs[1].Subs[0].Set = p.Subs[0].Set
	for _, x := range [][2]int{{3, 3}, {0, 3}, {2, 4}, {2, -1}} {
		if !pattest.New(func() api.Pat { got, _ := Times(p, x[0], x[1]); return got }) {
			t.Errorf("%v: parts share memory", x)
		}
		got, _ := Times(p, x[0], x[1])
		first := got.Subs[0]
		for first.Kind == api.Alt {
			first = first.Subs[0]
		}
		pattest.Overwrite(first.Subs[0])
		if !same(first.Subs[1], star(shared)) {
			t.Errorf("%v: two lists that shared memory still do", x)
		}
	}
	got, _ := Times(p, 1, 2)
	want := pattest.Copied(got)
	pattest.Overwrite(p)
	if !same(got, want) {
		t.Error("the answer shares memory with the argument")
	}
}

// Rule 3: nil and empty lists are one.
func TestEmptyLists(t *testing.T) {
	hollow := api.Pat{Kind: api.Cat, Set: []api.Span{}, Subs: []api.Pat{}}
	full := api.Pat{Kind: api.One, Set: set(1, 1), Subs: []api.Pat{}}
	if !Match(hollow, []uint32{}) || !Match(full, path(1)) || !Empty(hollow) {
		t.Error("Match")
	}
	if got, e := Times(full, 2, 2); e != api.OK || !same(got, cat(num(1), num(1))) {
		t.Error(got, e)
	}
}
