package pattest

import (
	"math"
	"slices"

	"dragoman/api"
)

// Chance is a number from 0 to n-1, by chance.
type Chance func(n int) int

// ends is the numbers at which the spans of drawn patterns begin and end.
func ends() []uint32 {
	return []uint32{0, 1, 2, 3, 5, Last - 1, Last}
}

// drawnSet is a set, with spans that overlap, follow one another, and are empty.
func drawnSet(chance Chance) []api.Span {
	var out []api.Span
	numbers := ends()
	for range chance(4) {
		lo, hi := numbers[chance(len(numbers))], numbers[chance(len(numbers))]
		if lo > hi && chance(4) > 0 {
			lo, hi = hi, lo
		}
		out = append(out, api.Span{Lo: lo, Hi: hi})
	}
	return out
}

// Drawn is a right pattern, at most so deep.
func Drawn(chance Chance, deep int) api.Pat {
	p := api.Pat{Kind: 1 + chance(4)}
	if deep == 1 {
		p.Kind = api.One
	}
	switch p.Kind {
	case api.One:
		p.Set = drawnSet(chance)
	case api.Star:
		p.Subs = []api.Pat{Drawn(chance, deep-1)}
	default:
		for range chance(4) {
			p.Subs = append(p.Subs, Drawn(chance, deep-1))
		}
	}
	return p
}

// Patterns is some right patterns of note, and so many by chance.
func Patterns(chance Chance, n int) []api.Pat {
	all := One(0, Last)
	out := []api.Pat{Cat(), Alt(), One(), all, Star(all), Star(Cat()), Star(Alt()), Tower(5), Maybe(Cat()), Alt(Alt(), Alt())}
	for range n {
		out = append(out, Drawn(chance, 4))
	}
	return out
}

// Endless is patterns whose parts, by memory that is shared, are more than can be gone through.
func Endless() []api.Pat {
	doubled := Num(1)
	for range 62 {
		doubled = Cat(doubled, doubled)
	}
	short := Num(1)
	for range 30 {
		short = Alt(short, short)
	}
	knot, knots := Star(Cat()), Cat(Cat(), Cat())
	knot.Subs[0] = knot
	knots.Subs[0], knots.Subs[1] = knots, knots
	return []api.Pat{doubled, short, knot, knots}
}

// Wrong is patterns that aren't right, each in one way, and right ones that hold them.
func Wrong() []api.Pat {
	out := []api.Pat{
		{},
		{Kind: 5},
		{Kind: -1},
		{Kind: math.MaxInt},
		{Kind: math.MinInt},
		{Kind: api.One, Subs: []api.Pat{Cat()}},
		{Kind: api.One, Set: make([]api.Span, 257)},
		{Kind: api.Cat, Set: []api.Span{{Lo: 1, Hi: 1}}},
		{Kind: api.Alt, Set: []api.Span{{Lo: 1, Hi: 1}}},
		{Kind: api.Alt, Set: []api.Span{{Lo: 2, Hi: 1}}},
		{Kind: api.Star, Set: []api.Span{{Lo: 1, Hi: 1}}, Subs: []api.Pat{Cat()}},
		{Kind: api.Star},
		{Kind: api.Star, Subs: []api.Pat{Cat(), Cat()}},
		Tower(41),
		Cat(Row(200, Cat())...),
		Alt(Row(200, One(0, Last))...),
	}
	for _, p := range slices.Clone(out) {
		out = append(out, Star(p), Cat(p), Cat(Num(1), p), Alt(p, Num(1)))
	}
	return out
}
