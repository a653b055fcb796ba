package ipat

import (
	"strconv"
	"strings"

	"dragoman/api"
	"dragoman/span"
)

// The places at which a pattern's text can stand.
const (
	whole = iota // nothing stands beside it
	part         // it is a part of an Alt of more than one
	item         // it is below a Star, or in a Cat of more than one
)

// text is the text of a right pattern at a place.
func text(p api.Pat, place int) string {
	switch {
	case p.Kind == api.One:
		return setText(span.Norm(p.Set))
	case p.Kind == api.Star:
		return text(p.Subs[0], item) + "*"
	case len(p.Subs) == 1:
		return text(p.Subs[0], place)
	case p.Kind == api.Alt && len(p.Subs) == 0:
		return "!"
	case p.Kind == api.Alt:
		return bracketed(joined(p.Subs, "|", part), place != whole)
	}
	return bracketed(joined(p.Subs, "_", item), place == item)
}

// joined is the texts of patterns, all at places of one kind, with a sign between them.
func joined(l []api.Pat, sign string, place int) string {
	texts := make([]string, len(l))
	for i, p := range l {
		texts[i] = text(p, place)
	}
	return strings.Join(texts, sign)
}

// bracketed is a text, in brackets if it needs them.
func bracketed(s string, needed bool) string {
	if needed {
		return "(" + s + ")"
	}
	return s
}

// setText is the text of a set in its one form.
func setText(l []api.Span) string {
	if len(l) == 0 {
		return "!"
	}
	texts := make([]string, len(l))
	for i, s := range l {
		texts[i] = spanText(s)
	}
	return bracketed(strings.Join(texts, "|"), len(l) > 1)
}

// spanText is the text of a span that isn't empty.
func spanText(s api.Span) string {
	switch {
	case s.Lo == 0 && s.Hi == last:
		return "."
	case s.Lo == s.Hi:
		return number(s.Lo)
	}
	return "[" + number(s.Lo) + "-" + number(s.Hi) + "]"
}

// number is the text of a number.
func number(n uint32) string {
	return strconv.FormatUint(uint64(n), 10)
}
