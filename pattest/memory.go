package pattest

import (
	"slices"

	"dragoman/api"
)

// Stays says whether a call leaves a pattern as it was handed in, the spare room of its lists too.
func Stays(p api.Pat, call func(api.Pat)) bool {
	var sets [][]api.Span
	var subs [][]api.Pat
	given := roomy(p, func(s []api.Span, l []api.Pat) { sets, subs = append(sets, s), append(subs, l) })
	call(given)
	stays := Same(given, p)
	for _, s := range sets {
		stays = stays && s[len(s)-1] == api.Span{Lo: 3, Hi: 4}
	}
	for _, l := range subs {
		stays = stays && Same(l[len(l)-1], Num(77))
	}
	return stays
}

// roomy is a pattern in new memory, all of whose lists have spare room with something in it; room gets the lists, whole.
func roomy(p api.Pat, room func([]api.Span, []api.Pat)) api.Pat {
	subs := make([]api.Pat, 0, len(p.Subs)+1)
	for _, s := range p.Subs {
		subs = append(subs, roomy(s, room))
	}
	wholeSet := slices.Concat(p.Set, []api.Span{{Lo: 3, Hi: 4}})
	wholeSubs := append(subs, Num(77))
	room(wholeSet, wholeSubs)
	return api.Pat{Kind: p.Kind, Set: wholeSet[:len(p.Set)], Subs: wholeSubs[:len(p.Subs)]}
}

// Copied is the same pattern in new memory.
func Copied(p api.Pat) api.Pat {
	return roomy(p, func([]api.Span, []api.Pat) {})
}

// New says whether an answer, asked anew each time, is new memory: no two lists of it share any, nor do two answers.
func New(answer func() api.Pat) bool {
	first := answer()
	want := Copied(first)
	for i := range want.Subs {
		got := answer()
		Overwrite(got.Subs[i])
		got.Subs[i] = want.Subs[i]
		if !Same(got, want) || !New(func() api.Pat { return answer().Subs[i] }) {
			return false
		}
	}
	Overwrite(first)
	return Same(answer(), want)
}

// Overwrite fills all lists of a pattern with something else, their spare room too.
func Overwrite(p api.Pat) {
	for _, s := range p.Subs {
		Overwrite(s)
	}
	for i := range p.Set[:cap(p.Set)] {
		p.Set[:cap(p.Set)][i] = api.Span{Lo: 99, Hi: 99}
	}
	for i := range p.Subs[:cap(p.Subs)] {
		p.Subs[:cap(p.Subs)][i] = Num(99)
	}
}
