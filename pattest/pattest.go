// Package pattest has patterns for the tests of the layers that handle them, and looks at what those answer.
package pattest

import (
	"slices"

	"dragoman/api"
)

// Last is the greatest number.
const Last = 4294967295

// One is a One of spans, written as their ends: One(1, 2, 5, 7) of 1 to 2, and 5 to 7.
func One(ends ...uint32) api.Pat {
	p := api.Pat{Kind: api.One}
	for i := 0; i+1 < len(ends); i += 2 {
		p.Set = append(p.Set, api.Span{Lo: ends[i], Hi: ends[i+1]})
	}
	return p
}

// Num is a One of one number.
func Num(n uint32) api.Pat {
	return One(n, n)
}

// Cat is a Cat.
func Cat(l ...api.Pat) api.Pat {
	return api.Pat{Kind: api.Cat, Subs: l}
}

// Alt is an Alt.
func Alt(l ...api.Pat) api.Pat {
	return api.Pat{Kind: api.Alt, Subs: l}
}

// Star is a Star.
func Star(p api.Pat) api.Pat {
	return api.Pat{Kind: api.Star, Subs: []api.Pat{p}}
}

// Plus is what + says.
func Plus(p api.Pat) api.Pat {
	return Cat(p, Star(p))
}

// Maybe is what ? says.
func Maybe(p api.Pat) api.Pat {
	return Alt(p, Cat())
}

// Row is a list of one pattern so many times.
func Row(n int, p api.Pat) []api.Pat {
	return slices.Repeat([]api.Pat{p}, n)
}

// Tower is a One within Stars, so deep in all.
func Tower(n int) api.Pat {
	p := Num(1)
	for range n - 1 {
		p = Star(p)
	}
	return p
}

// Same says whether two patterns are one, nil and empty lists too.
func Same(a, b api.Pat) bool {
	return a.Kind == b.Kind && slices.Equal(a.Set, b.Set) && slices.EqualFunc(a.Subs, b.Subs, Same)
}

// Paths is all paths of these numbers up to a length.
func Paths(most int, numbers ...uint32) [][]uint32 {
	out := [][]uint32{nil}
	for i := 0; i < len(out); i++ {
		for _, n := range numbers {
			if len(out[i]) < most {
				out = append(out, append(slices.Clone(out[i]), n))
			}
		}
	}
	return out
}

// Texts is all texts of these signs up to a length.
func Texts(most int, signs string) []string {
	out := []string{""}
	for i := 0; i < len(out); i++ {
		for _, c := range signs {
			if len(out[i]) < most {
				out = append(out, out[i]+string(c))
			}
		}
	}
	return out
}

// Digits is a path of numbers below 10 as a text of them.
func Digits(path []uint32) string {
	out := make([]byte, len(path))
	for i, n := range path {
		out[i] = '0' + byte(n)
	}
	return string(out)
}
