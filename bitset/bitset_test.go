package bitset

import (
	"math/rand/v2"
	"slices"
	"testing"
)

// of is the set of some numbers, put together one by one.
func of(l ...int) Set {
	var out Set
	for _, n := range l {
		out = out.With(One(n))
	}
	return out
}

// numbers is a set's numbers.
func numbers(s Set) []int {
	return slices.Collect(s.All())
}

// drawn is some numbers by chance, rising.
func drawn(chance *rand.Rand) []int {
	var out []int
	for n := range Most + 1 {
		if chance.IntN(3) == 0 {
			out = append(out, n)
		}
	}
	return out
}

// Each number that may be is in the set of it alone.
func TestOne(t *testing.T) {
	for n := range Most + 1 {
		for m := range Most + 1 {
			if One(n).Has(m) != (n == m) {
				t.Fatal(n, m)
			}
		}
		if !slices.Equal(numbers(One(n)), []int{n}) {
			t.Fatal(n, numbers(One(n)))
		}
	}
	if numbers(Set{}) != nil {
		t.Error(numbers(Set{}))
	}
}

// What is made of two sets, held number by number against what they are made of.
func TestMadeOfTwo(t *testing.T) {
	chance := rand.New(rand.NewPCG(1, 2))
	for range 100 {
		l, m := drawn(chance), drawn(chance)
		a, b := of(l...), of(m...)
		for n := range Most + 1 {
			inA, inB := slices.Contains(l, n), slices.Contains(m, n)
			if a.Has(n) != inA || a.With(b).Has(n) != (inA || inB) || a.Both(b).Has(n) != (inA && inB) || a.Without(b).Has(n) != (inA && !inB) {
				t.Fatal(n, l, m)
			}
		}
		if !slices.Equal(numbers(a), l) || a != of(l...) || (a == b) != slices.Equal(l, m) {
			t.Fatal(l, numbers(a))
		}
	}
}

// Onward goes from word to word, and past the last number to nothing.
func TestOnward(t *testing.T) {
	for n := range Most + 1 {
		want := Set{}
		if n < Most {
			want = One(n + 1)
		}
		if One(n).Onward() != want {
			t.Error(n, numbers(One(n).Onward()))
		}
	}
	if got := of(0, 63, 64, 127, Most).Onward(); got != of(1, 64, 65, 128) {
		t.Error(numbers(got))
	}
}

// All ends where it is told to.
func TestAllEnds(t *testing.T) {
	var got []int
	for n := range of(3, 63, 64, 200).All() {
		got = append(got, n)
		if n == 64 {
			break
		}
	}
	if !slices.Equal(got, []int{3, 63, 64}) {
		t.Error(got)
	}
}
