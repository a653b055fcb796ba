package pattest

import (
	"math/rand/v2"
	"testing"

	"dragoman/api"
)

// New tells an answer that is new memory from one that shares some, within itself or with the next one.
func TestNew(t *testing.T) {
	shared := Num(5)
	for i, x := range []struct {
		answer func() api.Pat
		want   bool
	}{
		{func() api.Pat { return Cat(Num(5), Star(Num(5))) }, true},
		{func() api.Pat { return Cat() }, true},
		{func() api.Pat { p := Num(5); return Cat(p, Star(p)) }, false},
		{func() api.Pat { p := Num(5); return Star(Alt(p, Star(p))) }, false},
		{func() api.Pat { return Star(shared) }, false},
	} {
		if got := New(x.answer); got != x.want {
			t.Errorf("%d: %v", i, got)
		}
	}
}

// Stays tells a call that changes what it is handed, its spare room too.
func TestStays(t *testing.T) {
	p := Cat(Num(1), Star(Num(2)))
	for i, x := range []struct {
		call func(api.Pat)
		want bool
	}{
		{func(api.Pat) {}, true},
		{func(p api.Pat) { p.Kind = api.Alt }, true},
		{func(p api.Pat) { p.Subs[0].Set[0].Hi++ }, false},
		{func(p api.Pat) { p.Subs[0], p.Subs[1] = p.Subs[1], p.Subs[0] }, false},
		{func(p api.Pat) { _ = append(p.Subs, Num(1)) }, false},
		{func(p api.Pat) { _ = append(p.Subs[0].Set, api.Span{}) }, false},
		{Overwrite, false},
	} {
		if got := Stays(p, x.call); got != x.want {
			t.Errorf("%d: %v", i, got)
		}
	}
}

// Printed is the text by the document's words, with one dialect's signs or the other one's.
func TestPrinted(t *testing.T) {
	p := Alt(Cat(Cat(Num(1)), One(2, 3, 5, 1)), Alt(One(), Star(Cat())), One(0, Last))
	ios := Signs{Between: "_", Open: "[", Close: "]"}
	if s := Printed(p, ios); s != "1_[2-3]|(!|()*)|." {
		t.Error(s)
	}
	if s := Printed(p, Signs{Between: " "}); s != "1 2-3|(!|()*)|." {
		t.Error(s)
	}
}

// Drawn patterns are the same for the same chance, and of every kind.
func TestPatterns(t *testing.T) {
	a := Patterns(rand.New(rand.NewPCG(1, 2)).IntN, 100)
	b := Patterns(rand.New(rand.NewPCG(1, 2)).IntN, 100)
	seen := map[int]int{}
	for i := range a {
		seen[a[i].Kind]++
		if !Same(a[i], b[i]) {
			t.Fatal(i)
		}
	}
	for kind := api.One; kind <= api.Star; kind++ {
		if seen[kind] < 10 {
			t.Error(kind, seen[kind])
		}
	}
}
