// Package bitset has sets of small numbers: layer 5's places of a path, layer 8's positions of a pattern.
package bitset

import (
	"iter"
	"math/bits"

	"dragoman/api"
)

// Most is the greatest number that a set can have.
// It is the end of the longest path, and a pattern's positions are fewer.
const Most = api.MaxPath

// word is how many numbers a word of a set holds.
const word = 64

// Set is a set of numbers from 0 to Most. Two sets are compared by ==.
type Set [Most/word + 1]uint64

// One is the set of one number.
func One(n int) Set {
	var out Set
	out[n/word] = 1 << (n % word)
	return out
}

// Has says whether a number is in a set.
func (s Set) Has(n int) bool {
	return s[n/word]>>(n%word)&1 == 1
}

// With is what is in one of two sets.
func (s Set) With(t Set) Set {
	for i := range s {
		s[i] |= t[i]
	}
	return s
}

// Both is what is in both sets.
func (s Set) Both(t Set) Set {
	for i := range s {
		s[i] &= t[i]
	}
	return s
}

// Without is what is in a set, but not in another one.
func (s Set) Without(t Set) Set {
	for i := range s {
		s[i] &^= t[i]
	}
	return s
}

// Onward is a set's numbers, each one greater; behind Most there is none.
func (s Set) Onward() Set {
	carry := uint64(0)
	for i, w := range s {
		s[i] = w<<1 | carry
		carry = w >> (word - 1)
	}
	return s
}

// All goes through a set's numbers, rising.
func (s Set) All() iter.Seq[int] {
	return func(yield func(int) bool) {
		for i, w := range s {
			for ; w != 0; w &= w - 1 {
				if !yield(i*word + bits.TrailingZeros64(w)) {
					return
				}
			}
		}
	}
}
