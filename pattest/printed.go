package pattest

import (
	"slices"
	"strconv"
	"strings"

	"dragoman/api"
)

// Signs is what a dialect has of its own: what stands between the items of a Cat, and about a span.
type Signs struct {
	Between, Open, Close string
}

// Printed is the text of a drawn pattern by the document's words.
func Printed(p api.Pat, s Signs) string {
	return s.printed(pruned(p), 0)
}

// pruned is a pattern without the Cats and Alts that have just one part: that one stands at their place.
func pruned(p api.Pat) api.Pat {
	if p.Kind != api.Star && len(p.Subs) == 1 {
		return pruned(p.Subs[0])
	}
	out := api.Pat{Kind: p.Kind, Set: p.Set}
	for _, s := range p.Subs {
		out.Subs = append(out.Subs, pruned(s))
	}
	return out
}

// printed is the text of a pattern that has been pruned; above is the kind of what holds it.
func (s Signs) printed(p api.Pat, above int) string {
	var texts []string
	for _, x := range p.Subs {
		texts = append(texts, s.printed(x, p.Kind))
	}
	asItem := above == api.Star || above == api.Cat
	switch {
	case p.Kind == api.Star:
		return texts[0] + "*"
	case p.Kind == api.Cat && asItem:
		return "(" + strings.Join(texts, s.Between) + ")"
	case p.Kind == api.Cat:
		return strings.Join(texts, s.Between)
	case p.Kind == api.Alt && len(texts) == 0:
		return "!"
	case p.Kind == api.Alt && (asItem || above == api.Alt):
		return "(" + strings.Join(texts, "|") + ")"
	case p.Kind == api.Alt:
		return strings.Join(texts, "|")
	}
	return s.printedSet(p.Set)
}

// printedSet is the text of a set whose spans begin and end as those of drawn patterns.
func (s Signs) printedSet(l []api.Span) string {
	var texts []string
	for _, x := range Runs(l) {
		low, high := strconv.FormatUint(uint64(x.Lo), 10), strconv.FormatUint(uint64(x.Hi), 10)
		switch {
		case x.Lo == 0 && x.Hi == Last:
			return "."
		case x.Lo == x.Hi:
			texts = append(texts, low)
		default:
			texts = append(texts, s.Open+low+"-"+high+s.Close)
		}
	}
	switch len(texts) {
	case 0:
		return "!"
	case 1:
		return texts[0]
	}
	return "(" + strings.Join(texts, "|") + ")"
}

// Runs is the one form of a set whose spans begin and end as those of drawn patterns, found by asking for each number at which one could begin or end.
func Runs(l []api.Span) []api.Span {
	asked := []uint32{0, 1, 2, 3, 4, 5, 6, Last - 2, Last - 1, Last}
	var out []api.Span
	run := false
	for _, n := range asked {
		in := slices.ContainsFunc(l, func(s api.Span) bool { return s.Lo <= n && n <= s.Hi })
		switch {
		case in && run:
			out[len(out)-1].Hi = n
		case in:
			out = append(out, api.Span{Lo: n, Hi: n})
		}
		run = in
	}
	return out
}
