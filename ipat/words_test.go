package ipat

import (
	"math/rand/v2"
	"regexp"
	"strconv"

	"dragoman/api"
	"dragoman/pattest"
)

// The patterns of the tests, written short.
const last = pattest.Last

var (
	one, num   = pattest.One, pattest.Num
	cat, alt   = pattest.Cat, pattest.Alt
	starOf     = pattest.Star
	plusOf     = pattest.Plus
	maybeOf    = pattest.Maybe
	times      = pattest.Row
	tower      = pattest.Tower
	same       = pattest.Same
	shortPaths = pattest.Paths
)

// anything and amid are what stands about a pattern whose text has no ^ or $.
func anything() api.Pat      { return starOf(one(0, last)) }
func amid(p api.Pat) api.Pat { return cat(anything(), p, anything()) }

// patterns is many right patterns (the same ones at each run).
func patterns(n int) []api.Pat {
	return pattest.Patterns(rand.New(rand.NewPCG(61, 62)).IntN, n)
}

// wrongPatterns is patterns that aren't right, and some whose parts are more than can be gone through.
func wrongPatterns() []api.Pat {
	return append(pattest.Wrong(), pattest.Endless()...)
}

// said is a text of the grammar, the pattern that it says, and the same as the library's expression of texts of digits.
type said struct {
	text, expression string
	p                api.Pat
}

// wholeOf is a text of an alt with, or without, the signs about it.
func wholeOf(x said, begins, ends bool) said {
	switch {
	case begins && ends:
		return said{"^" + x.text + "$", "^(?:" + x.expression + ")$", x.p}
	case begins:
		return said{"^" + x.text, "^(?:" + x.expression + ")", cat(x.p, anything())}
	case ends:
		return said{x.text + "$", "(?:" + x.expression + ")$", cat(anything(), x.p)}
	}
	return said{x.text, "(?:" + x.expression + ")", amid(x.p)}
}

// drawnText is a text by chance, its numbers below 10.
func drawnText(chance *rand.Rand, deep int) said {
	return wholeOf(drawnAlt(chance, deep), chance.IntN(2) == 0, chance.IntN(2) == 0)
}

// drawnAlt is an alt by chance, its brackets so deep at most.
func drawnAlt(chance *rand.Rand, deep int) said {
	out := drawnCat(chance, deep)
	whole := alt(out.p)
	for range chance.IntN(3) {
		x := drawnCat(chance, deep)
		out.text += "|" + x.text
		out.expression += "|" + x.expression
		whole.Subs = append(whole.Subs, x.p)
	}
	if len(whole.Subs) > 1 {
		out.p = whole
	}
	return out
}

// drawnCat is a cat by chance.
func drawnCat(chance *rand.Rand, deep int) said {
	var out said
	whole := cat()
	for i := range chance.IntN(4) {
		x := drawnItem(chance, deep)
		if i > 0 {
			out.text += "_"
		}
		out.text += x.text
		out.expression += x.expression
		whole.Subs = append(whole.Subs, x.p)
	}
	out.p = whole
	if len(whole.Subs) == 1 {
		out.p = whole.Subs[0]
	}
	return out
}

// drawnItem is an item by chance.
func drawnItem(chance *rand.Rand, deep int) said {
	x := drawnAtom(chance, deep)
	for chance.IntN(3) == 0 {
		switch chance.IntN(3) {
		case 0:
			x = said{x.text + "*", "(?:" + x.expression + ")*", starOf(x.p)}
		case 1:
			x = said{x.text + "+", "(?:" + x.expression + ")+", plusOf(x.p)}
		case 2:
			x = said{x.text + "?", "(?:" + x.expression + ")?", maybeOf(x.p)}
		}
	}
	return x
}

// drawnAtom is an atom by chance.
func drawnAtom(chance *rand.Rand, deep int) said {
	n := chance.IntN(10)
	m := n + chance.IntN(10-n)
	low, high := strconv.Itoa(n), strconv.Itoa(m)
	switch kind := chance.IntN(8); {
	case kind < 3 && deep > 0:
		x := drawnAlt(chance, deep-1)
		return said{"(" + x.text + ")", "(?:" + x.expression + ")", x.p}
	case kind == 3:
		return said{".", ".", one(0, last)}
	case kind == 4:
		return said{"!", "[^0-9]", alt()}
	case kind == 5:
		return said{"[" + low + "-" + high + "]", "[" + low + "-" + high + "]", one(uint32(n), uint32(m))}
	}
	return said{low, low, num(uint32(n))}
}

// The grammar without brackets, as the library's expressions.
const (
	numberWords = `(?:0|[1-9][0-9]*)`
	itemWords   = `(?:` + numberWords + `|\[` + numberWords + `-` + numberWords + `\]|\.|!)[*+?]*`
	catWords    = `(?:` + itemWords + `(?:_` + itemWords + `)*)?`
	altWords    = catWords + `(?:\|` + catWords + `)*`
)

var (
	inBrackets = regexp.MustCompile(`\(` + altWords + `\)`)
	allWords   = regexp.MustCompile(`^\^?` + altWords + `\$?$`)
	allNumbers = regexp.MustCompile(`[0-9]+`)
	allSpans   = regexp.MustCompile(`\[([0-9]+)-([0-9]+)\]`)
)

// errorByWords is the error of a text, as long as what it says isn't too full: what stands in brackets is an atom, from within.
func errorByWords(s string) api.Errno {
	if len(s) > 2000 {
		return api.ErrFull
	}
	rest := s
	for was := ""; was != rest; {
		was, rest = rest, inBrackets.ReplaceAllString(rest, ".")
	}
	if !allWords.MatchString(rest) {
		return api.ErrForm
	}
	for _, n := range allNumbers.FindAllString(s, -1) {
		if _, err := strconv.ParseUint(n, 10, 32); err != nil {
			return api.ErrRange
		}
	}
	for _, x := range allSpans.FindAllStringSubmatch(s, -1) {
		lo, _ := strconv.ParseUint(x[1], 10, 32)
		hi, _ := strconv.ParseUint(x[2], 10, 32)
		if lo > hi {
			return api.ErrRange
		}
	}
	return api.OK
}
