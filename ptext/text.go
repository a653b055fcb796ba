package ptext

import (
	"strconv"
	"strings"

	"dragoman/api"
	"dragoman/span"
)

// Style is the signs that a dialect has of its own.
type Style struct {
	Between     string // what stands between the items of a Cat
	Open, Close string // what stands about a span of more than one number
}

// The places at which a pattern's text can stand.
const (
	whole = iota // nothing stands beside it
	part         // it is a part of an Alt of more than one
	item         // it is below a Star, or in a Cat of more than one
)

// Text is the text of a right pattern.
func (s Style) Text(p api.Pat) string {
	return s.text(p, whole)
}

// text is the text of a right pattern at a place.
func (s Style) text(p api.Pat, place int) string {
	switch {
	case p.Kind == api.One:
		return s.setText(span.Norm(p.Set))
	case p.Kind == api.Star:
		return s.text(p.Subs[0], item) + "*"
	case len(p.Subs) == 1:
		return s.text(p.Subs[0], place)
	case p.Kind == api.Alt && len(p.Subs) == 0:
		return "!"
	case p.Kind == api.Alt:
		return bracketed(s.joined(p.Subs, "|", part), place != whole)
	}
	return bracketed(s.joined(p.Subs, s.Between, item), place == item)
}

// joined is the texts of patterns, all at places of one kind, with a sign between them.
func (s Style) joined(l []api.Pat, sign string, place int) string {
	texts := make([]string, len(l))
	for i, p := range l {
		texts[i] = s.text(p, place)
	}
	return strings.Join(texts, sign)
}

// setText is the text of a set in its one form.
func (s Style) setText(l []api.Span) string {
	if len(l) == 0 {
		return "!"
	}
	texts := make([]string, len(l))
	for i, x := range l {
		texts[i] = s.spanText(x)
	}
	return bracketed(strings.Join(texts, "|"), len(l) > 1)
}

// spanText is the text of a span that isn't empty.
func (s Style) spanText(x api.Span) string {
	switch {
	case x.Lo == 0 && x.Hi == last:
		return "."
	case x.Lo == x.Hi:
		return number(x.Lo)
	}
	return s.Open + number(x.Lo) + "-" + number(x.Hi) + s.Close
}

// bracketed is a text, in brackets if it needs them.
func bracketed(s string, needed bool) string {
	if needed {
		return "(" + s + ")"
	}
	return s
}

// number is the text of a number.
func number(n uint32) string {
	return strconv.FormatUint(uint64(n), 10)
}
