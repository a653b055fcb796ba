package pat

import "dragoman/api"

// word is how many places a word of a set holds.
const word = 64

// places is a set of places of a path: n is the one ahead of its number n, and the last one is its end, which is at most MaxPath.
type places [api.MaxPath/word + 1]uint64

// at is the set of one place.
func at(n int) places {
	var out places
	out[n/word] = 1 << (n % word)
	return out
}

// has says whether a place is in a set.
func (s places) has(n int) bool {
	return s[n/word]>>(n%word)&1 == 1
}

// with is what is in one of two sets.
func (s places) with(t places) places {
	for i := range s {
		s[i] |= t[i]
	}
	return s
}

// both is what is in both sets.
func (s places) both(t places) places {
	for i := range s {
		s[i] &= t[i]
	}
	return s
}

// without is what is in a set, but not in another one.
func (s places) without(t places) places {
	for i := range s {
		s[i] &^= t[i]
	}
	return s
}

// onward is the places one number on; behind the last place that a set can have there is none.
func (s places) onward() places {
	carry := uint64(0)
	for i, w := range s {
		s[i] = w<<1 | carry
		carry = w >> (word - 1)
	}
	return s
}
