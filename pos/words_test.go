package pos

import (
	"math/rand/v2"
	"slices"

	"dragoman/api"
	"dragoman/pat"
	"dragoman/pattest"
)

// The patterns of the tests, written short.
const last = pattest.Last

var (
	one, num = pattest.One, pattest.Num
	cat, alt = pattest.Cat, pattest.Alt
	star     = pattest.Star
	times    = pattest.Row
	tower    = pattest.Tower
	maybe    = pattest.Maybe
)

// path writes a path.
func path(l ...uint32) []uint32 { return l }

// run is a path of one number n times.
func run(n int, of uint32) []uint32 { return slices.Repeat([]uint32{of}, n) }

// patterns is many right patterns (the same ones at each run).
func patterns(n int) []api.Pat {
	return pattest.Patterns(rand.New(rand.NewPCG(81, 82)).IntN, n)
}

// same says whether two answers are one, nil and empty lists too.
func same(a, b Pos) bool {
	return a.Empty == b.Empty &&
		slices.EqualFunc(a.Sets, b.Sets, slices.Equal) &&
		slices.Equal(a.First, b.First) && slices.Equal(a.Last, b.Last) &&
		slices.EqualFunc(a.Follow, b.Follow, slices.Equal)
}

// placed is a part whose Ones have their numbers.
type placed struct {
	p    api.Pat
	at   int // of a One
	subs []placed
}

// place is a part whose Ones have the numbers from n on, and the next number.
func place(p api.Pat, n int) (placed, int) {
	out := placed{p: p, at: n}
	if p.Kind == api.One {
		return out, n + 1
	}
	for _, s := range p.Subs {
		var sub placed
		sub, n = place(s, n)
		out.subs = append(out.subs, sub)
	}
	return out, n
}

// edges is the document's words for First, and for Last, with the parts of a Cat taken from the end.
func (x placed) edges(fromEnd bool) []int {
	switch x.p.Kind {
	case api.One:
		return []int{x.at}
	case api.Alt, api.Star:
		var out []int
		for _, s := range x.subs {
			out = append(out, s.edges(fromEnd)...)
		}
		return out
	}
	l := slices.Clone(x.subs)
	if fromEnd {
		slices.Reverse(l)
	}
	var out []int
	for _, s := range l {
		out = append(out, s.edges(fromEnd)...)
		if !pat.Empty(s.p) {
			break
		}
	}
	return out
}

// pairs tells each position, and one that can come right behind it, by the document's words.
func (x placed) pairs(tell func(a, b int)) {
	cross := func(a, b placed) {
		for _, i := range a.edges(true) {
			for _, j := range b.edges(false) {
				tell(i, j)
			}
		}
	}
	for i, s := range x.subs {
		s.pairs(tell)
		if x.p.Kind == api.Star {
			cross(s, s)
		}
		for j := i + 1; x.p.Kind == api.Cat && j < len(x.subs); j++ {
			cross(s, x.subs[j])
			if !pat.Empty(x.subs[j].p) {
				break
			}
		}
	}
}

// sets tells the Sets of all Ones, from the left to the right.
func (x placed) sets(tell func([]api.Span)) {
	if x.p.Kind == api.One {
		tell(x.p.Set)
	}
	for _, s := range x.subs {
		s.sets(tell)
	}
}

// byWords is a drawn pattern by its positions, as the document's words say.
func byWords(p api.Pat) Pos {
	whole, n := place(p, 0)
	out := Pos{Empty: pat.Empty(p), First: whole.edges(false), Last: whole.edges(true), Follow: make([][]int, n)}
	whole.sets(func(l []api.Span) { out.Sets = append(out.Sets, pattest.Runs(l)) })
	whole.pairs(func(a, b int) { out.Follow[a] = append(out.Follow[a], b) })
	for _, l := range append(out.Follow, out.First, out.Last) {
		slices.Sort(l)
	}
	for i, l := range out.Follow {
		out.Follow[i] = slices.Compact(l)
	}
	return out
}

// wayByWords is the document's own word for a way through the positions, tried with each of them at each place.
func wayByWords(x Pos, l []uint32) bool {
	if len(l) == 0 {
		return x.Empty
	}
	var on func(at int, rest []uint32) bool
	on = func(at int, rest []uint32) bool {
		has := slices.ContainsFunc(x.Sets[at], func(s api.Span) bool { return s.Lo <= rest[0] && rest[0] <= s.Hi })
		if !has || len(rest) == 1 {
			return has && slices.Contains(x.Last, at)
		}
		return slices.ContainsFunc(x.Follow[at], func(next int) bool { return on(next, rest[1:]) })
	}
	return slices.ContainsFunc(x.First, func(at int) bool { return on(at, l) })
}

// numbered is a pattern whose One number n takes n alone, and how many it has.
func numbered(p api.Pat) (api.Pat, int) {
	out, n := pattest.Copied(p), uint32(0)
	var count func(p *api.Pat)
	count = func(p *api.Pat) {
		if p.Kind == api.One {
			p.Set = []api.Span{{Lo: n, Hi: n}}
			n++
		}
		for i := range p.Subs {
			count(&p.Subs[i])
		}
	}
	count(&out)
	return out, int(n)
}
