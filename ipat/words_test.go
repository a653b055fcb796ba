package ipat

import (
	"math"
	"math/rand/v2"
	"regexp"
	"slices"
	"strconv"
	"strings"

	"dragoman/api"
)

// one, num, cat, alt, star and anything write patterns; one's numbers are its spans' ends.
func one(ends ...uint32) api.Pat {
	p := api.Pat{Kind: api.One}
	for i := 0; i+1 < len(ends); i += 2 {
		p.Set = append(p.Set, api.Span{Lo: ends[i], Hi: ends[i+1]})
	}
	return p
}
func num(n uint32) api.Pat             { return one(n, n) }
func cat(l ...api.Pat) api.Pat         { return api.Pat{Kind: api.Cat, Subs: l} }
func alt(l ...api.Pat) api.Pat         { return api.Pat{Kind: api.Alt, Subs: l} }
func starOf(p api.Pat) api.Pat         { return api.Pat{Kind: api.Star, Subs: []api.Pat{p}} }
func anything() api.Pat                { return starOf(one(0, last)) }
func plusOf(p api.Pat) api.Pat         { return cat(p, starOf(p)) }
func maybeOf(p api.Pat) api.Pat        { return alt(p, cat()) }
func amid(p api.Pat) api.Pat           { return cat(anything(), p, anything()) }
func times(n int, p api.Pat) []api.Pat { return slices.Repeat([]api.Pat{p}, n) }

// tower is a One within Stars, n deep in all.
func tower(n int) api.Pat {
	p := num(1)
	for range n - 1 {
		p = starOf(p)
	}
	return p
}

// same says whether two patterns are one, nil and empty lists too.
func same(a, b api.Pat) bool {
	return a.Kind == b.Kind && slices.Equal(a.Set, b.Set) && slices.EqualFunc(a.Subs, b.Subs, same)
}

// shortPaths is all paths of these numbers up to a length.
func shortPaths(most int, numbers ...uint32) [][]uint32 {
	out := [][]uint32{nil}
	for i := 0; i < len(out); i++ {
		for _, n := range numbers {
			if len(out[i]) < most {
				out = append(out, append(slices.Clone(out[i]), n))
			}
		}
	}
	return out
}

// digits is a path of numbers below 10 as a text of them.
func digits(path []uint32) string {
	s := ""
	for _, n := range path {
		s += strconv.Itoa(int(n))
	}
	return s
}

// said is a text of the grammar, the pattern that it says, and the same as the library's expression of texts of digits.
type said struct {
	text, expression string
	p                api.Pat
}

// wholeOf is a text of an alt with, or without, the signs about it.
func wholeOf(x said, begins, ends bool) said {
	switch {
	case begins && ends:
		return said{"^" + x.text + "$", "^(?:" + x.expression + ")$", x.p}
	case begins:
		return said{"^" + x.text, "^(?:" + x.expression + ")", cat(x.p, anything())}
	case ends:
		return said{x.text + "$", "(?:" + x.expression + ")$", cat(anything(), x.p)}
	}
	return said{x.text, "(?:" + x.expression + ")", amid(x.p)}
}

// drawnText is a text by chance, its numbers below 10.
func drawnText(chance *rand.Rand, deep int) said {
	return wholeOf(drawnAlt(chance, deep), chance.IntN(2) == 0, chance.IntN(2) == 0)
}

// drawnAlt is an alt by chance, its brackets so deep at most.
func drawnAlt(chance *rand.Rand, deep int) said {
	out := drawnCat(chance, deep)
	whole := alt(out.p)
	for range chance.IntN(3) {
		x := drawnCat(chance, deep)
		out.text += "|" + x.text
		out.expression += "|" + x.expression
		whole.Subs = append(whole.Subs, x.p)
	}
	if len(whole.Subs) > 1 {
		out.p = whole
	}
	return out
}

// drawnCat is a cat by chance.
func drawnCat(chance *rand.Rand, deep int) said {
	var out said
	whole := cat()
	for i := range chance.IntN(4) {
		x := drawnItem(chance, deep)
		if i > 0 {
			out.text += "_"
		}
		out.text += x.text
		out.expression += x.expression
		whole.Subs = append(whole.Subs, x.p)
	}
	out.p = whole
	if len(whole.Subs) == 1 {
		out.p = whole.Subs[0]
	}
	return out
}

// drawnItem is an item by chance.
func drawnItem(chance *rand.Rand, deep int) said {
	x := drawnAtom(chance, deep)
	for chance.IntN(3) == 0 {
		switch chance.IntN(3) {
		case 0:
			x = said{x.text + "*", "(?:" + x.expression + ")*", starOf(x.p)}
		case 1:
			x = said{x.text + "+", "(?:" + x.expression + ")+", plusOf(x.p)}
		case 2:
			x = said{x.text + "?", "(?:" + x.expression + ")?", maybeOf(x.p)}
		}
	}
	return x
}

// drawnAtom is an atom by chance.
func drawnAtom(chance *rand.Rand, deep int) said {
	n := chance.IntN(10)
	m := n + chance.IntN(10-n)
	low, high := strconv.Itoa(n), strconv.Itoa(m)
	switch kind := chance.IntN(8); {
	case kind < 3 && deep > 0:
		x := drawnAlt(chance, deep-1)
		return said{"(" + x.text + ")", "(?:" + x.expression + ")", x.p}
	case kind == 3:
		return said{".", ".", one(0, last)}
	case kind == 4:
		return said{"!", "[^0-9]", alt()}
	case kind == 5:
		return said{"[" + low + "-" + high + "]", "[" + low + "-" + high + "]", one(uint32(n), uint32(m))}
	}
	return said{low, low, num(uint32(n))}
}

// The grammar without brackets, as the library's expressions.
const (
	numberWords = `(?:0|[1-9][0-9]*)`
	itemWords   = `(?:` + numberWords + `|\[` + numberWords + `-` + numberWords + `\]|\.|!)[*+?]*`
	catWords    = `(?:` + itemWords + `(?:_` + itemWords + `)*)?`
	altWords    = catWords + `(?:\|` + catWords + `)*`
)

var (
	inBrackets = regexp.MustCompile(`\(` + altWords + `\)`)
	allWords   = regexp.MustCompile(`^\^?` + altWords + `\$?$`)
	allNumbers = regexp.MustCompile(`[0-9]+`)
	allSpans   = regexp.MustCompile(`\[([0-9]+)-([0-9]+)\]`)
)

// errorByWords is the error of a text, as long as what it says isn't too full: what stands in brackets is an atom, from within.
func errorByWords(s string) api.Errno {
	if len(s) > 2000 {
		return api.ErrFull
	}
	rest := s
	for was := ""; was != rest; {
		was, rest = rest, inBrackets.ReplaceAllString(rest, ".")
	}
	if !allWords.MatchString(rest) {
		return api.ErrForm
	}
	for _, n := range allNumbers.FindAllString(s, -1) {
		if _, err := strconv.ParseUint(n, 10, 32); err != nil {
			return api.ErrRange
		}
	}
	for _, x := range allSpans.FindAllStringSubmatch(s, -1) {
		lo, _ := strconv.ParseUint(x[1], 10, 32)
		hi, _ := strconv.ParseUint(x[2], 10, 32)
		if lo > hi {
			return api.ErrRange
		}
	}
	return api.OK
}

// drawnSet is a set by chance, with spans that overlap, follow one another, and are empty.
func drawnSet(chance *rand.Rand) []api.Span {
	var out []api.Span
	numbers := []uint32{0, 1, 2, 3, 5, last - 1, last}
	for range chance.IntN(4) {
		out = append(out, api.Span{Lo: numbers[chance.IntN(7)], Hi: numbers[chance.IntN(7)]})
	}
	return out
}

// drawn is a right pattern by chance, at most so deep.
func drawn(chance *rand.Rand, deep int) api.Pat {
	p := api.Pat{Kind: 1 + chance.IntN(4)}
	if deep == 1 {
		p.Kind = api.One
	}
	switch p.Kind {
	case api.One:
		p.Set = drawnSet(chance)
	case api.Star:
		p.Subs = []api.Pat{drawn(chance, deep-1)}
	default:
		for range chance.IntN(4) {
			p.Subs = append(p.Subs, drawn(chance, deep-1))
		}
	}
	return p
}

// patterns is many right patterns (the same ones at each run).
func patterns(n int) []api.Pat {
	chance := rand.New(rand.NewPCG(61, 62))
	out := []api.Pat{cat(), alt(), one(), anything(), starOf(cat()), starOf(alt()), tower(5), maybeOf(cat()), alt(alt(), alt())}
	for range n {
		out = append(out, drawn(chance, 4))
	}
	return out
}

// wrongPatterns is patterns that aren't right, each in one way, and some whose parts are more than can be gone through.
func wrongPatterns() []api.Pat {
	doubled := num(1)
	for range 62 {
		doubled = cat(doubled, doubled)
	}
	knot := cat(cat(), cat())
	knot.Subs[0], knot.Subs[1] = knot, knot
	out := []api.Pat{
		{},
		{Kind: 5},
		{Kind: -1},
		{Kind: math.MaxInt},
		{Kind: math.MinInt},
		{Kind: api.One, Subs: []api.Pat{cat()}},
		{Kind: api.One, Set: make([]api.Span, 257)},
		{Kind: api.Cat, Set: make([]api.Span, 1)},
		{Kind: api.Alt, Set: make([]api.Span, 1)},
		{Kind: api.Star, Set: make([]api.Span, 1), Subs: []api.Pat{cat()}},
		{Kind: api.Star},
		{Kind: api.Star, Subs: []api.Pat{cat(), cat()}},
		tower(41),
		cat(times(200, cat())...),
		doubled,
		knot,
	}
	for _, p := range slices.Clone(out) {
		out = append(out, starOf(p), cat(p), alt(p, num(1)), cat(num(1), p))
	}
	return out
}

// pruned is a pattern without the Cats and Alts that have just one part: that one stands at their place.
func pruned(p api.Pat) api.Pat {
	if p.Kind != api.Star && len(p.Subs) == 1 {
		return pruned(p.Subs[0])
	}
	out := api.Pat{Kind: p.Kind, Set: p.Set}
	for _, s := range p.Subs {
		out.Subs = append(out.Subs, pruned(s))
	}
	return out
}

// printed is the text of a pattern that has been pruned; above is the kind of what holds it.
func printed(p api.Pat, above int) string {
	var texts []string
	for _, s := range p.Subs {
		texts = append(texts, printed(s, p.Kind))
	}
	asItem := above == api.Star || above == api.Cat
	switch {
	case p.Kind == api.Star:
		return texts[0] + "*"
	case p.Kind == api.Cat && asItem:
		return "(" + strings.Join(texts, "_") + ")"
	case p.Kind == api.Cat:
		return strings.Join(texts, "_")
	case p.Kind == api.Alt && len(texts) == 0:
		return "!"
	case p.Kind == api.Alt && (asItem || above == api.Alt):
		return "(" + strings.Join(texts, "|") + ")"
	case p.Kind == api.Alt:
		return strings.Join(texts, "|")
	}
	return printedSet(p.Set)
}

// printedSet is the text of a set of the numbers that drawnSet has for ends, found by asking for each number.
func printedSet(l []api.Span) string {
	var texts []string
	for _, ends := range inSet(l) {
		low, high := strconv.FormatUint(ends[0], 10), strconv.FormatUint(ends[1], 10)
		switch {
		case ends[0] == 0 && ends[1] == last:
			return "."
		case low == high:
			texts = append(texts, low)
		default:
			texts = append(texts, "["+low+"-"+high+"]")
		}
	}
	switch len(texts) {
	case 0:
		return "!"
	case 1:
		return texts[0]
	}
	return "(" + strings.Join(texts, "|") + ")"
}

// inSet is the ends of the runs of numbers in a set whose ends are below 7, or above the last number but 3.
func inSet(l []api.Span) [][2]uint64 {
	asked := []uint64{0, 1, 2, 3, 4, 5, 6, last - 2, last - 1, last}
	var out [][2]uint64
	run := false
	for _, n := range asked {
		in := slices.ContainsFunc(l, func(s api.Span) bool { return uint64(s.Lo) <= n && n <= uint64(s.Hi) })
		switch {
		case in && run:
			out[len(out)-1][1] = n
		case in:
			out = append(out, [2]uint64{n, n})
		}
		run = in
	}
	return out
}

// overwrite fills all lists of a pattern with something else, their spare room too.
func overwrite(p api.Pat) {
	for _, s := range p.Subs {
		overwrite(s)
	}
	for i := range p.Set[:cap(p.Set)] {
		p.Set[:cap(p.Set)][i] = api.Span{Lo: 99, Hi: 99}
	}
	for i := range p.Subs[:cap(p.Subs)] {
		p.Subs[:cap(p.Subs)][i] = num(99)
	}
}

// deepCopy is the same pattern in new memory; each list has spare room with something in it, and room gets it whole.
func deepCopy(p api.Pat, room func([]api.Span, []api.Pat)) api.Pat {
	subs := make([]api.Pat, 0, len(p.Subs)+1)
	for _, s := range p.Subs {
		subs = append(subs, deepCopy(s, room))
	}
	wholeSet := append(slices.Clone(p.Set), api.Span{Lo: 3, Hi: 4})
	wholeSubs := append(subs, num(77))
	room(wholeSet, wholeSubs)
	return api.Pat{Kind: p.Kind, Set: wholeSet[:len(p.Set)], Subs: wholeSubs[:len(p.Subs)]}
}
