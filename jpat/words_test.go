package jpat

import (
	"math/rand/v2"
	"regexp"
	"slices"
	"strconv"
	"strings"

	"dragoman/api"
	"dragoman/pat"
	"dragoman/pattest"
)

// The patterns of the tests, written short.
const last = pattest.Last

var (
	one, num   = pattest.One, pattest.Num
	cat, alt   = pattest.Cat, pattest.Alt
	starOf     = pattest.Star
	plusOf     = pattest.Plus
	maybeOf    = pattest.Maybe
	times      = pattest.Row
	tower      = pattest.Tower
	same       = pattest.Same
	shortPaths = pattest.Paths
)

// patterns is many right patterns (the same ones at each run).
func patterns(n int) []api.Pat {
	return pattest.Patterns(rand.New(rand.NewPCG(71, 72)).IntN, n)
}

// said is signs and numbers that are of the grammar, the pattern that they say, and the same as the library's expression of texts of digits.
type said struct {
	tokens     []string
	expression string
	p          api.Pat
	full       bool // p, or what it is made of, isn't right
}

// isNumber says whether a token is a number.
func isNumber(token string) bool {
	return '0' <= token[0] && token[0] <= '9'
}

// text is the tokens one behind the other, with no more blanks than must be.
func (x said) text() string {
	return x.spaced(func() int { return 0 })
}

// spaced is the tokens with so many blanks ahead of each, and at the end, one more where there must be one.
func (x said) spaced(blanks func() int) string {
	out := ""
	for i, s := range x.tokens {
		out += strings.Repeat(" ", blanks())
		if i > 0 && isNumber(s) && isNumber(x.tokens[i-1]) {
			out += " "
		}
		out += s
	}
	return out + strings.Repeat(" ", blanks())
}

// drawnText is a text by chance, its numbers below 10, its brackets so deep at most.
func drawnText(chance *rand.Rand, deep int) said {
	out := drawnCat(chance, deep)
	whole := alt(out.p)
	for range chance.IntN(3) {
		x := drawnCat(chance, deep)
		out.tokens = slices.Concat(out.tokens, []string{"|"}, x.tokens)
		out.expression += "|" + x.expression
		out.full = out.full || x.full
		whole.Subs = append(whole.Subs, x.p)
	}
	return out.saying(whole)
}

// saying is the same tokens, with the pattern of which they say the parts.
func (x said) saying(whole api.Pat) said {
	x.p = whole
	if len(whole.Subs) == 1 && whole.Kind != api.Star {
		x.p = whole.Subs[0]
	}
	x.full = x.full || !pat.Right(x.p)
	return x
}

// drawnCat is a cat by chance.
func drawnCat(chance *rand.Rand, deep int) said {
	var out said
	whole := cat()
	for range chance.IntN(4) {
		x := drawnItem(chance, deep)
		out.tokens = append(out.tokens, x.tokens...)
		out.expression += x.expression
		out.full = out.full || x.full
		whole.Subs = append(whole.Subs, x.p)
	}
	return out.saying(whole)
}

// drawnItem is an item by chance.
func drawnItem(chance *rand.Rand, deep int) said {
	x := drawnAtom(chance, deep)
	for chance.IntN(3) == 0 && !x.full {
		least, most := chance.IntN(4), chance.IntN(4)
		least, most = min(least, most), max(least, most)
		m, n := strconv.Itoa(least), strconv.Itoa(most)
		switch chance.IntN(6) {
		case 0:
			x = x.signed(starOf(x.p), "*")
		case 1:
			x = x.signed(plusOf(x.p), "+")
		case 2:
			x = x.signed(maybeOf(x.p), "?")
		case 3:
			x = x.signed(soMany(x.p, least, 0, false), "{", m, "}")
		case 4:
			x = x.signed(soMany(x.p, least, 0, true), "{", m, ",", "}")
		case 5:
			x = x.signed(soMany(x.p, least, most-least, false), "{", m, ",", n, "}")
		}
	}
	return x
}

// signed is an item with signs behind it, and the pattern that it says then.
func (x said) signed(p api.Pat, signs ...string) said {
	return said{
		tokens:     slices.Concat(x.tokens, signs),
		expression: "(?:" + x.expression + ")" + strings.Join(signs, ""),
		p:          p,
		full:       !pat.Right(p),
	}
}

// soMany is a pattern least times, and then some more that may be there or not.
func soMany(p api.Pat, least, more int, endless bool) api.Pat {
	out := cat(append(times(least, p), times(more, maybeOf(p))...)...)
	if endless {
		out.Subs = append(out.Subs, starOf(p))
	}
	return out
}

// drawnAtom is an atom by chance.
func drawnAtom(chance *rand.Rand, deep int) said {
	n := chance.IntN(10)
	m := n + chance.IntN(10-n)
	low, high := strconv.Itoa(n), strconv.Itoa(m)
	switch kind := chance.IntN(8); {
	case kind < 3 && deep > 0:
		x := drawnText(chance, deep-1)
		x.tokens = slices.Concat([]string{"("}, x.tokens, []string{")"})
		x.expression = "(?:" + x.expression + ")"
		return x
	case kind == 3:
		return said{tokens: []string{"."}, expression: ".", p: one(0, last)}
	case kind == 4:
		return said{tokens: []string{"!"}, expression: "[^0-9]", p: alt()}
	case kind == 5:
		return said{tokens: []string{low, "-", high}, expression: "[" + low + "-" + high + "]", p: one(uint32(n), uint32(m))}
	}
	return said{tokens: []string{low}, expression: low, p: num(uint32(n))}
}

// The grammar without brackets, as the library's expressions.
const (
	numberWords = ` *\b(?:0|[1-9][0-9]*)\b`
	atomWords   = `(?:` + numberWords + `(?: *-` + numberWords + `)?| *\.| *!)`
	signWords   = `(?: *[*+?]| *\{` + numberWords + `(?: *,(?:` + numberWords + `)?)? *\})`
	catWords    = `(?:` + atomWords + signWords + `*)*`
	altWords    = catWords + `(?: *\|` + catWords + `)*`
)

var (
	inBrackets = regexp.MustCompile(` *\(` + altWords + ` *\)`)
	allWords   = regexp.MustCompile(`^` + altWords + ` *$`)
	allNumbers = regexp.MustCompile(`[0-9]+`)
	allSpans   = regexp.MustCompile(`([0-9]+) *- *([0-9]+)`)
	allCounts  = regexp.MustCompile(`\{ *([0-9]+) *, *([0-9]+) *\}`)
)

// errorByWords is the error of a text, as long as what it says isn't too full: what stands in brackets is an atom, from within.
func errorByWords(s string) api.Errno {
	if len(s) > 2000 {
		return api.ErrFull
	}
	rest := s
	for was := ""; was != rest; {
		was, rest = rest, inBrackets.ReplaceAllString(rest, ".")
	}
	if !allWords.MatchString(rest) {
		return api.ErrForm
	}
	for _, n := range allNumbers.FindAllString(s, -1) {
		if _, err := strconv.ParseUint(n, 10, 32); err != nil {
			return api.ErrRange
		}
	}
	for _, x := range append(allSpans.FindAllStringSubmatch(s, -1), allCounts.FindAllStringSubmatch(s, -1)...) {
		lo, _ := strconv.ParseUint(x[1], 10, 32)
		hi, _ := strconv.ParseUint(x[2], 10, 32)
		if lo > hi {
			return api.ErrRange
		}
	}
	return api.OK
}
