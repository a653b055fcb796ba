// Package span is layer 1: see shared/doc/01-span.md.
package span

import (
	"cmp"
	"slices"

	"dragoman/api"
)

// last is the greatest number.
const last uint32 = 4294967295

// In says whether a number is in a set.
func In(l []api.Span, n uint32) bool {
	for _, s := range l {
		if s.Lo <= n && n <= s.Hi {
			return true
		}
	}
	return false
}

// Norm is a set in its one form.
func Norm(l []api.Span) []api.Span {
	var out []api.Span
	for _, s := range rising(l) {
		end := len(out) - 1
		if end >= 0 && reaches(out[end], s.Lo) {
			out[end].Hi = max(out[end].Hi, s.Hi)
			continue
		}
		out = append(out, s)
	}
	return out
}

// Union is what is in either set.
func Union(a, b []api.Span) []api.Span {
	return Norm(slices.Concat(a, b))
}

// Meet is what is in both.
func Meet(a, b []api.Span) []api.Span {
	a, b = Norm(a), Norm(b)
	var out []api.Span
	i, j := 0, 0
hands:
	for {
		if i == len(a) || j == len(b) {
			break hands
		}
		lo, hi := max(a[i].Lo, b[j].Lo), min(a[i].Hi, b[j].Hi)
		if lo <= hi {
			out = append(out, api.Span{Lo: lo, Hi: hi})
		}
		// The span that ends first can meet nothing that comes later.
		if a[i].Hi < b[j].Hi {
			i++
			continue hands
		}
		j++
	}
	return out
}

// Not is what is in none.
func Not(a []api.Span) []api.Span {
	var out []api.Span
	from := uint32(0)
	for _, s := range Norm(a) {
		if from < s.Lo {
			out = append(out, api.Span{Lo: from, Hi: s.Lo - 1})
		}
		n, more := next(s.Hi)
		if !more {
			return out
		}
		from = n
	}
	return append(out, api.Span{Lo: from, Hi: last})
}

// Atoms is all numbers, cut where a set begins or ends.
func Atoms(l [][]api.Span) []api.Span {
	begins := []uint32{0}
	for _, set := range l {
		// Only the one form's edges part numbers of the set from others.
		for _, s := range Norm(set) {
			begins = append(begins, s.Lo)
			if n, more := next(s.Hi); more {
				begins = append(begins, n)
			}
		}
	}
	slices.Sort(begins)
	return between(slices.Compact(begins))
}

// between is all numbers as spans that begin at these, which rise from 0.
func between(begins []uint32) []api.Span {
	out := make([]api.Span, len(begins))
	for i, n := range begins {
		out[i] = api.Span{Lo: n, Hi: last}
		if i > 0 {
			out[i-1].Hi = n - 1
		}
	}
	return out
}

// rising is the spans that aren't empty, in new memory, by where they begin.
func rising(l []api.Span) []api.Span {
	var out []api.Span
	for _, s := range l {
		if s.Lo <= s.Hi {
			out = append(out, s)
		}
	}
	slices.SortFunc(out, func(a, b api.Span) int { return cmp.Compare(a.Lo, b.Lo) })
	return out
}

// reaches says whether no number stands between a span and lo, which isn't below its Lo.
func reaches(s api.Span, lo uint32) bool {
	n, more := next(s.Hi)
	return !more || lo <= n
}

// next is the number behind n, if there is one.
func next(n uint32) (uint32, bool) {
	switch n {
	case last:
		return 0, false
	default:
		return n + 1, true
	}
}
