package pfx

import (
	"math"
	"math/rand/v2"
	"slices"
	"strings"
	"testing"

	"dragoman/api"
)

// all is the greatest address.
const all uint32 = 4294967295

// ten is 10.0.0.0.
const ten uint32 = 10 * 16777216

// at writes a prefix.
func at(addr uint32, n int) api.Prefix { return api.Prefix{Addr: addr, Len: n} }

// rng writes a range: its Base's address and bits, Ge and Le.
func rng(addr uint32, n, ge, le int) api.Range {
	return api.Range{Base: at(addr, n), Ge: ge, Le: le}
}

// permit and deny write entries of lists.
func permit(x api.Range) api.PfxEntry { return api.PfxEntry{Range: x} }
func deny(x api.Range) api.PfxEntry   { return api.PfxEntry{Deny: true, Range: x} }

// Prefixes are held against the document as texts of 0 and 1, apart from masks.

// digits is an address as 32 digits.
func digits(addr uint32) string {
	out := make([]byte, 32)
	for i := 31; i >= 0; i-- {
		out[i] = '0' + byte(addr%2)
		addr /= 2
	}
	return string(out)
}

// text is the first bits of a prefix, if it is right by the document's words.
func text(p api.Prefix) (string, bool) {
	if p.Len < 0 || p.Len > 32 {
		return "", false
	}
	d := digits(p.Addr)
	return d[:p.Len], !strings.Contains(d[p.Len:], "1")
}

// prefix is the prefix whose bits a text is.
func prefix(s string) api.Prefix {
	addr := uint32(0)
	for _, d := range s + strings.Repeat("0", 32-len(s)) {
		addr = 2*addr + uint32(d-'0')
	}
	return at(addr, len(s))
}

// rightByWords is the document's own word for a right range.
func rightByWords(x api.Range) bool {
	_, ok := text(x.Base)
	return ok && slices.IsSorted([]int{x.Base.Len, x.Ge, x.Le, 32})
}

// inByWords is the document's own word for a prefix in a range.
func inByWords(x api.Range, p api.Prefix) bool {
	s, ok := text(p)
	if !ok || !rightByWords(x) {
		return false
	}
	base, _ := text(x.Base)
	return x.Ge <= len(s) && len(s) <= x.Le && strings.HasPrefix(s, base)
}

// matchByWords is the document's own word for a list that takes a prefix.
func matchByWords(l []api.PfxEntry, p api.Prefix) bool {
	i := slices.IndexFunc(l, func(e api.PfxEntry) bool { return inByWords(e.Range, p) })
	return i >= 0 && !l[i].Deny
}

// meetByWords is the document's own words for Meet.
func meetByWords(a, b api.Range) (api.Range, bool) {
	if !rightByWords(a) || !rightByWords(b) {
		return api.Range{}, false
	}
	s, _ := text(a.Base)
	u, _ := text(b.Base)
	if len(s) < len(u) {
		s, u = u, s
	}
	m := api.Range{Base: prefix(s), Ge: max(a.Ge, b.Ge, len(s)), Le: min(a.Le, b.Le)}
	if !strings.HasPrefix(s, u) || m.Ge > m.Le {
		return api.Range{}, false
	}
	return m, true
}

// minusByWords is the document's own words for Minus.
func minusByWords(a, b api.Range) []api.Range {
	if !rightByWords(a) {
		return nil
	}
	m, ok := meetByWords(a, b)
	if !ok {
		return []api.Range{a}
	}
	pieces := []api.Range{{Base: a.Base, Ge: a.Ge, Le: m.Ge - 1}}
	s, _ := text(m.Base)
	for n := a.Base.Len + 1; n <= m.Base.Len; n++ {
		last := "1"
		if s[n-1] == '1' {
			last = "0"
		}
		pieces = append(pieces, api.Range{Base: prefix(s[:n-1] + last), Ge: m.Ge, Le: m.Le})
	}
	pieces = append(pieces, api.Range{Base: a.Base, Ge: m.Le + 1, Le: a.Le})
	return slices.DeleteFunc(pieces, func(x api.Range) bool { return x.Ge > x.Le })
}

// flatByWords is the document's own words for Flat.
func flatByWords(l []api.PfxEntry) ([]api.Range, api.Errno) {
	var there []api.Range
	for _, e := range slices.Backward(l) {
		var left []api.Range
		for _, x := range there {
			left = slices.Concat(left, minusByWords(x, e.Range))
		}
		if !e.Deny && rightByWords(e.Range) {
			left = append(left, e.Range)
		}
		if len(left) > 1024 {
			return nil, api.ErrFull
		}
		there = left
	}
	return there, api.OK
}

// oneKind says whether each range has both prefixes or neither.
func oneKind(l []api.Range, p, q api.Prefix) bool {
	return !slices.ContainsFunc(l, func(x api.Range) bool { return inByWords(x, p) != inByWords(x, q) })
}

// lengths is numbers of bits that may be, and others.
func lengths() []int {
	out := []int{math.MinInt, math.MinInt32, -33, -32, -2, math.MaxInt, math.MaxInt32, 63, 64, 65}
	for n := -1; n <= 34; n++ {
		out = append(out, n)
	}
	return out
}

// low is the first of the last 16 addresses; there, and among those whose first 4 bits alone are 1, drawn ranges begin.
const low uint32 = 0xfffffff0

// world is right prefixes, by Len, then by Addr, among which each kind for drawn ranges has its first one.
func world() []api.Prefix {
	var out []api.Prefix
	for n := range 33 {
		step := uint64(1) << (32 - n)
		addrs := []uint32{uint32(uint64(low) / step * step)}
		for i := range uint64(16) {
			addrs = append(addrs, uint32(i<<28/step*step), uint32((uint64(low)+i)/step*step))
		}
		slices.Sort(addrs)
		for _, a := range slices.Compact(addrs) {
			out = append(out, at(a, n))
		}
	}
	return out
}

// drawnRange is a range whose Base has few bits, or nearly all; now and then it isn't right.
func drawnRange(chance *rand.Rand) api.Range {
	n, addr := chance.IntN(5), chance.Uint32()
	if chance.IntN(3) == 0 {
		n, addr = 28+chance.IntN(5), low|addr
	}
	base := prefix(digits(addr)[:n])
	ge := n + chance.IntN(33-n)
	if chance.IntN(2) == 0 {
		ge = min(n+chance.IntN(3), 32)
	}
	le := ge + chance.IntN(33-ge)
	if chance.IntN(3) == 0 {
		le = min(ge+chance.IntN(2), 32)
	}
	x := api.Range{Base: base, Ge: ge, Le: le}
	wrong := []int{-1, 33, math.MinInt, math.MaxInt}[chance.IntN(4)]
	switch chance.IntN(24) {
	case 0:
		x.Ge, x.Le = x.Le, x.Ge
	case 1:
		x.Base.Addr |= 1
	case 2:
		x.Base.Len = wrong
	case 3:
		x.Ge = wrong
	case 4:
		x.Le = wrong
	}
	return x
}

// drawnRanges is many lists of ranges, the same ones at each run.
func drawnRanges() [][]api.Range {
	chance := rand.New(rand.NewPCG(41, 42))
	var out [][]api.Range
	for range 250 {
		var l []api.Range
		for range chance.IntN(9) {
			l = append(l, drawnRange(chance))
		}
		out = append(out, l)
	}
	return out
}

// drawnLists is many lists of entries, the same ones at each run.
func drawnLists() [][]api.PfxEntry {
	chance := rand.New(rand.NewPCG(43, 44))
	var out [][]api.PfxEntry
	for _, ranges := range drawnRanges() {
		var l []api.PfxEntry
		for _, x := range ranges {
			l = append(l, api.PfxEntry{Deny: chance.IntN(3) == 0, Range: x})
		}
		out = append(out, l)
	}
	return out
}

// wrongRanges is some that aren't right, each by one fault.
func wrongRanges() []api.Range {
	return []api.Range{
		rng(ten, 8, 7, 24), rng(ten, 8, 16, 15), rng(ten, 8, 16, 33), rng(ten+1, 8, 16, 24), rng(ten, 6, 16, 24),
		rng(0, -1, 0, 0), rng(0, -1, -1, 32), rng(0, 33, 33, 33), rng(0, 33, 32, 32), rng(1, 0, 0, 32), rng(all, 31, 32, 32),
		rng(0, 0, -1, 32), rng(0, 0, 0, -1), rng(0, 0, 33, 33), rng(0, 0, 33, 32), rng(0, 0, 1, 0),
		rng(0, math.MinInt, 0, 32), rng(0, math.MaxInt, math.MaxInt, math.MaxInt), rng(0, 0, math.MinInt, 32),
		rng(0, 0, 0, math.MaxInt), rng(0, 0, math.MaxInt, math.MinInt), rng(0, 0, math.MinInt, math.MaxInt),
	}
}

// P4.1: Right.
func TestRight(t *testing.T) {
	for _, x := range []api.Range{
		{}, rng(0, 0, 0, 32), rng(0, 0, 32, 32), rng(ten, 8, 8, 8), rng(ten, 8, 16, 24), rng(ten, 7, 7, 32),
		rng(all, 32, 32, 32), rng(all-1, 31, 31, 31), rng(1<<31, 1, 1, 1),
	} {
		if !Right(x) {
			t.Errorf("Right(%v): false", x)
		}
	}
	for _, x := range wrongRanges() {
		if Right(x) {
			t.Errorf("Right(%v): true", x)
		}
	}
	for _, n := range lengths() {
		for _, ge := range lengths() {
			for _, le := range lengths() {
				for _, addr := range []uint32{0, ten, all, 1 << 31} {
					if x := rng(addr, n, ge, le); Right(x) != rightByWords(x) {
						t.Fatalf("Right(%v): %v", x, Right(x))
					}
				}
			}
		}
	}
}

// P4.1: In.
func TestIn(t *testing.T) {
	for _, x := range []struct {
		x    api.Range
		p    api.Prefix
		want bool
	}{
		{rng(ten, 8, 16, 24), at(ten+65536, 16), true},
		{rng(ten, 8, 16, 24), at(ten, 8), false},
		{rng(ten, 8, 16, 24), at(ten, 15), false},
		{rng(ten, 8, 16, 24), at(ten, 16), true},
		{rng(ten, 8, 16, 24), at(ten, 24), true},
		{rng(ten, 8, 16, 24), at(ten, 25), false},
		{rng(ten, 8, 16, 24), at(ten+1<<24, 16), false},
		{rng(ten, 8, 16, 24), at(ten-1<<16, 16), false},
		{rng(ten, 8, 16, 24), at(ten+1, 16), false},
		{rng(ten, 8, 8, 32), at(ten+1<<24-1, 32), true},
		{rng(ten, 8, 8, 32), at(ten+1<<24, 32), false},
		{rng(0, 0, 0, 32), at(0, 0), true},
		{rng(0, 0, 0, 32), at(all, 32), true},
		{rng(0, 0, 0, 32), at(0, -1), false},
		{rng(0, 0, 0, 32), at(0, 33), false},
		{rng(0, 0, 0, 32), at(1, 0), false},
		{rng(0, 0, 0, 32), at(0, math.MinInt), false},
		{rng(0, 0, 0, 32), at(0, math.MaxInt), false},
		{rng(all, 32, 32, 32), at(all, 32), true},
		{rng(all, 32, 32, 32), at(all-1, 32), false},
		{api.Range{}, api.Prefix{}, true},
		{api.Range{}, at(0, 1), false},
	} {
		if got := In(x.x, x.p); got != x.want {
			t.Errorf("In(%v, %v): %v", x.x, x.p, got)
		}
	}
	for _, x := range wrongRanges() {
		for _, p := range append(world(), x.Base, at(x.Base.Addr, x.Ge), at(x.Base.Addr, x.Le)) {
			if In(x, p) {
				t.Errorf("In(%v, %v): true", x, p)
			}
		}
	}
}

// P4.1: In by the document's words, at right prefixes and others.
func TestInByWords(t *testing.T) {
	some := world()
	for _, n := range lengths() {
		some = append(some, at(0, n), at(low, n), at(all, n), at(5, n))
	}
	for _, l := range drawnRanges() {
		for _, x := range l {
			for _, p := range some {
				if got := In(x, p); got != inByWords(x, p) {
					t.Fatalf("In(%v, %v): %v", x, p, got)
				}
			}
		}
	}
}

// P4.1: Match.
func TestMatch(t *testing.T) {
	narrow, wide := rng(ten, 8, 8, 8), rng(ten, 8, 8, 9)
	for i, x := range []struct {
		l    []api.PfxEntry
		p    api.Prefix
		want bool
	}{
		{nil, at(ten, 8), false},
		{[]api.PfxEntry{}, at(ten, 8), false},
		{[]api.PfxEntry{permit(narrow)}, at(ten, 8), true},
		{[]api.PfxEntry{permit(narrow)}, at(ten, 9), false},
		{[]api.PfxEntry{deny(narrow)}, at(ten, 8), false},
		{[]api.PfxEntry{deny(narrow)}, at(ten, 9), false},
		{[]api.PfxEntry{deny(narrow), permit(wide)}, at(ten, 8), false},
		{[]api.PfxEntry{deny(narrow), permit(wide)}, at(ten, 9), true},
		{[]api.PfxEntry{permit(wide), deny(narrow)}, at(ten, 8), true},
		{[]api.PfxEntry{permit(narrow), deny(wide)}, at(ten, 8), true},
		{[]api.PfxEntry{permit(narrow), deny(wide)}, at(ten, 9), false},
		{[]api.PfxEntry{permit(rng(ten, 8, 8, 33)), deny(narrow)}, at(ten, 8), false},
		{[]api.PfxEntry{deny(rng(ten, 8, 8, 33)), permit(narrow)}, at(ten, 8), true},
		{[]api.PfxEntry{permit(rng(0, 0, 0, 32))}, at(ten, 33), false},
		{[]api.PfxEntry{permit(rng(0, 0, 0, 32))}, at(ten, 4), false},
	} {
		if got := Match(x.l, x.p); got != x.want {
			t.Errorf("%d: Match(%v, %v): %v", i, x.l, x.p, got)
		}
	}
	for _, l := range drawnLists() {
		for _, p := range world() {
			if got := Match(l, p); got != matchByWords(l, p) {
				t.Fatalf("Match(%v, %v): %v", l, p, got)
			}
		}
	}
}

// P4.1: Match has no limit of entries.
func TestMatchMany(t *testing.T) {
	l := make([]api.PfxEntry, 100000)
	if Match(l, at(ten, 8)) {
		t.Error("none has 10.0.0.0 8")
	}
	l[len(l)-1].Range = rng(ten, 8, 8, 8)
	if !Match(l, at(ten, 8)) {
		t.Error("the last one has 10.0.0.0 8")
	}
}

// P4.2: Meet, turned round too.
func TestMeet(t *testing.T) {
	none := api.Range{}
	for _, x := range []struct {
		a, b, want api.Range
		ok         bool
	}{
		{rng(0, 0, 0, 2), rng(1<<31, 1, 1, 2), rng(1<<31, 1, 1, 2), true},
		{rng(ten, 8, 8, 32), rng(ten, 8, 16, 24), rng(ten, 8, 16, 24), true},
		{rng(ten, 8, 8, 20), rng(ten, 8, 16, 24), rng(ten, 8, 16, 20), true},
		{rng(ten, 8, 8, 16), rng(ten, 8, 16, 24), rng(ten, 8, 16, 16), true},
		{rng(ten, 8, 8, 15), rng(ten, 8, 16, 24), none, false},
		{rng(ten, 8, 20, 24), rng(ten, 16, 16, 32), rng(ten, 16, 20, 24), true},
		{rng(ten, 8, 8, 24), rng(ten+1<<16, 16, 16, 32), rng(ten+1<<16, 16, 16, 24), true},
		{rng(ten, 8, 8, 15), rng(ten+1<<16, 16, 16, 32), none, false},
		{rng(ten, 8, 8, 8), rng(ten+1<<24, 8, 8, 8), none, false},
		{rng(ten, 8, 8, 32), rng(ten+1<<24, 9, 9, 32), none, false},
		{rng(0, 0, 0, 32), rng(all, 32, 32, 32), rng(all, 32, 32, 32), true},
		{rng(0, 0, 0, 31), rng(all, 32, 32, 32), none, false},
		{rng(0, 0, 0, 32), rng(0, 0, 0, 32), rng(0, 0, 0, 32), true},
		{none, none, none, true},
		{none, rng(0, 0, 1, 32), none, false},
		{rng(ten, 8, 9, 8), rng(0, 0, 0, 32), none, false},
		{rng(ten, 8, 8, 8), rng(0, 0, 9, 8), none, false},
		{rng(ten+1, 8, 8, 8), rng(ten, 8, 8, 8), none, false},
		{rng(0, 0, 0, 32), rng(0, 0, 0, 33), none, false},
		{rng(0, 0, 0, 32), rng(0, 0, -1, 32), none, false},
		{rng(0, 0, 0, 32), rng(0, -1, 0, 32), none, false},
		{rng(0, -1, 0, 32), rng(0, -1, 0, 32), none, false},
	} {
		for _, pair := range [][2]api.Range{{x.a, x.b}, {x.b, x.a}} {
			if got, ok := Meet(pair[0], pair[1]); got != x.want || ok != x.ok {
				t.Errorf("Meet(%v): %v %v, want %v %v", pair, got, ok, x.want, x.ok)
			}
		}
	}
	for _, x := range wrongRanges() {
		for _, y := range append(wrongRanges(), rng(0, 0, 0, 32), rng(ten, 8, 8, 32)) {
			for _, pair := range [][2]api.Range{{x, y}, {y, x}} {
				if got, ok := Meet(pair[0], pair[1]); got != none || ok {
					t.Errorf("Meet(%v): %v %v", pair, got, ok)
				}
			}
		}
	}
}

// drawnPairs is many pairs of ranges, the same ones at each run.
func drawnPairs() [][2]api.Range {
	chance := rand.New(rand.NewPCG(45, 46))
	var out [][2]api.Range
	for range 1500 {
		out = append(out, [2]api.Range{drawnRange(chance), drawnRange(chance)})
	}
	return out
}

// P4.2: what is in the met range is in both, and false says that nothing is.
func TestMeetIsBoth(t *testing.T) {
	prefixes := world()
	for _, x := range drawnPairs() {
		got, ok := Meet(x[0], x[1])
		want, wantOK := meetByWords(x[0], x[1])
		if got != want || ok != wantOK {
			t.Fatalf("Meet(%v): %v %v, want %v %v", x, got, ok, want, wantOK)
		}
		for _, p := range prefixes {
			if both := inByWords(x[0], p) && inByWords(x[1], p); both != (ok && inByWords(got, p)) {
				t.Fatalf("Meet(%v): %v %v: %v: want %v", x, got, ok, p, both)
			}
		}
	}
}

// P4.3: Minus.
func TestMinus(t *testing.T) {
	whole := rng(0, 0, 0, 32)
	for _, x := range []struct {
		a, b api.Range
		want []api.Range
	}{
		{rng(0, 0, 0, 2), rng(1<<31, 1, 1, 2), []api.Range{rng(0, 0, 0, 0), rng(0, 1, 1, 2)}},
		{rng(ten, 8, 8, 32), rng(ten, 8, 16, 24), []api.Range{rng(ten, 8, 8, 15), rng(ten, 8, 25, 32)}},
		{rng(ten, 8, 8, 32), rng(ten, 8, 8, 24), []api.Range{rng(ten, 8, 25, 32)}},
		{rng(ten, 8, 8, 32), rng(ten, 8, 9, 32), []api.Range{rng(ten, 8, 8, 8)}},
		{rng(ten, 8, 16, 24), whole, nil},
		{whole, whole, nil},
		{rng(ten, 8, 8, 8), rng(ten+1<<24, 8, 8, 8), []api.Range{rng(ten, 8, 8, 8)}},
		{rng(ten, 8, 8, 12), rng(0x0ac00000, 10, 11, 11), []api.Range{rng(ten, 8, 8, 10), rng(ten, 9, 11, 11), rng(0x0a800000, 10, 11, 11), rng(ten, 8, 12, 12)}},
		// The base of b goes less far than a's: nothing is turned.
		{rng(0x0ac00000, 10, 10, 12), rng(ten, 8, 11, 11), []api.Range{rng(0x0ac00000, 10, 10, 10), rng(0x0ac00000, 10, 12, 12)}},
		// Lengths that are too few for b's Base stay whole.
		{rng(0, 0, 0, 0), rng(all, 32, 32, 32), []api.Range{{}}},
		{rng(ten, 8, 9, 8), whole, nil},
		{rng(ten, 8, 9, 8), rng(ten, 8, 9, 8), nil},
		{rng(ten, 8, 8, 8), rng(0, 0, 9, 8), []api.Range{rng(ten, 8, 8, 8)}},
		{rng(ten, 8, 8, 8), rng(0, 0, 0, 33), []api.Range{rng(ten, 8, 8, 8)}},
		{whole, rng(0, -1, -1, 32), []api.Range{whole}},
	} {
		if got := Minus(x.a, x.b); !slices.Equal(got, x.want) {
			t.Errorf("Minus(%v, %v): %v, want %v", x.a, x.b, got, x.want)
		}
	}
	for _, x := range wrongRanges() {
		if got := Minus(x, rng(ten, 8, 8, 32)); len(got) != 0 {
			t.Errorf("Minus(%v): %v", x, got)
		}
		if got := Minus(whole, x); !slices.Equal(got, []api.Range{whole}) {
			t.Errorf("Minus by %v: %v", x, got)
		}
	}
}

// P4.3: one address taken from all: a range for each of its bits, with the lengths on either side.
func TestMinusMost(t *testing.T) {
	got := Minus(rng(0, 0, 0, 32), rng(all, 32, 32, 32))
	want := []api.Range{rng(0, 0, 0, 31)}
	for n := 1; n <= 32; n++ {
		want = append(want, api.Range{Base: prefix(strings.Repeat("1", n-1) + "0"), Ge: 32, Le: 32})
	}
	if !slices.Equal(got, want) {
		t.Errorf("%v, want %v", got, want)
	}
	got = Minus(rng(0, 0, 0, 32), rng(0, 31, 31, 31))
	want = []api.Range{rng(0, 0, 0, 30)}
	for n := 1; n <= 31; n++ {
		want = append(want, api.Range{Base: prefix(strings.Repeat("0", n-1) + "1"), Ge: 31, Le: 31})
	}
	want = append(want, rng(0, 0, 32, 32))
	if !slices.Equal(got, want) {
		t.Errorf("%v, want %v", got, want)
	}
}

// P4.3, P4.6: Minus is as the words say, and leaves what is in a and not in b, each prefix in one right range.
func TestMinusByWords(t *testing.T) {
	prefixes := world()
	for _, x := range drawnPairs() {
		got := Minus(x[0], x[1])
		if want := minusByWords(x[0], x[1]); !slices.Equal(got, want) {
			t.Fatalf("Minus(%v): %v, want %v", x, got, want)
		}
		if slices.ContainsFunc(got, func(y api.Range) bool { return !rightByWords(y) }) {
			t.Fatalf("Minus(%v): %v aren't right", x, got)
		}
		for _, p := range prefixes {
			want := 0
			if inByWords(x[0], p) && !inByWords(x[1], p) {
				want = 1
			}
			if n := having(got, p); n != want {
				t.Fatalf("Minus(%v): %v: %v is in %d", x, got, p, n)
			}
		}
	}
}

// having is how many of some ranges a prefix is in.
func having(l []api.Range, p api.Prefix) int {
	n := 0
	for _, x := range l {
		if inByWords(x, p) {
			n++
		}
	}
	return n
}

// P4.4: Flat.
func TestFlat(t *testing.T) {
	narrow, wide := rng(ten, 8, 8, 8), rng(ten, 8, 8, 9)
	other := rng(ten+1<<24, 8, 8, 8)
	for i, x := range []struct {
		l    []api.PfxEntry
		want []api.Range
	}{
		{nil, nil},
		{[]api.PfxEntry{}, nil},
		{[]api.PfxEntry{permit(wide)}, []api.Range{wide}},
		{[]api.PfxEntry{deny(wide)}, nil},
		{[]api.PfxEntry{deny(narrow), permit(wide)}, []api.Range{rng(ten, 8, 9, 9)}},
		{[]api.PfxEntry{permit(narrow), permit(wide)}, []api.Range{rng(ten, 8, 9, 9), narrow}},
		{[]api.PfxEntry{permit(wide), deny(narrow)}, []api.Range{wide}},
		{[]api.PfxEntry{permit(wide), permit(wide)}, []api.Range{wide}},
		{[]api.PfxEntry{permit(narrow), permit(other)}, []api.Range{other, narrow}},
		{[]api.PfxEntry{permit(other), permit(narrow)}, []api.Range{narrow, other}},
		{[]api.PfxEntry{permit(narrow), deny(rng(0, 0, 0, 32)), permit(other)}, []api.Range{narrow}},
		{[]api.PfxEntry{deny(rng(ten, 8, 8, 33)), permit(narrow)}, []api.Range{narrow}},
		{[]api.PfxEntry{permit(rng(ten, 8, 8, 33)), permit(narrow)}, []api.Range{narrow}},
		{[]api.PfxEntry{permit(rng(9, 9, 9, 9))}, nil},
		{[]api.PfxEntry{deny(rng(0x0ac00000, 10, 11, 11)), permit(rng(ten, 8, 8, 12)), permit(other)},
			[]api.Range{other, rng(ten, 8, 8, 10), rng(ten, 9, 11, 11), rng(0x0a800000, 10, 11, 11), rng(ten, 8, 12, 12)}},
	} {
		if got, e := Flat(x.l); e != api.OK || !slices.Equal(got, x.want) {
			t.Errorf("%d: Flat(%v): %v %v, want %v", i, x.l, got, e, x.want)
		}
	}
	for _, x := range wrongRanges() {
		for _, e := range []api.PfxEntry{permit(x), deny(x)} {
			if got, errno := Flat([]api.PfxEntry{e, permit(wide), e}); errno != api.OK || !slices.Equal(got, []api.Range{wide}) {
				t.Errorf("Flat with %v: %v %v", e, got, errno)
			}
		}
	}
}

// P4.4, P4.6: Flat is as the words say; a prefix is in one of its ranges just if the list takes it, and in one alone.
func TestFlatIsMatch(t *testing.T) {
	prefixes := world()
	for _, l := range drawnLists() {
		got, e := Flat(l)
		want, wantE := flatByWords(l)
		if e != wantE || !slices.Equal(got, want) {
			t.Fatalf("Flat(%v): %v %v, want %v %v", l, got, e, want, wantE)
		}
		if e != api.OK {
			continue
		}
		for _, p := range prefixes {
			times := 0
			if matchByWords(l, p) {
				times = 1
			}
			if n := having(got, p); n != times {
				t.Fatalf("Flat(%v): %v: %v is in %d", l, got, p, n)
			}
		}
	}
}

// hosts is n permits of one address each, none of them twice.
func hosts(n int) []api.PfxEntry {
	var out []api.PfxEntry
	for i := range uint32(n) {
		out = append(out, permit(rng(ten+i, 32, 32, 32)))
	}
	return out
}

// P4.4: MaxRanges ranges may be, more may not, be it only for a while.
func TestFlatFull(t *testing.T) {
	whole := rng(0, 0, 0, 32)
	for i, x := range []struct {
		l    []api.PfxEntry
		many int
		e    api.Errno
	}{
		{hosts(api.MaxRanges - 1), 1023, api.OK},
		{hosts(api.MaxRanges), 1024, api.OK},
		{hosts(api.MaxRanges + 1), 0, api.ErrFull},
		{hosts(5000), 0, api.ErrFull},
		{slices.Concat([]api.PfxEntry{permit(whole)}, hosts(api.MaxRanges)), 1, api.OK},
		{slices.Concat([]api.PfxEntry{permit(whole)}, hosts(api.MaxRanges+1)), 0, api.ErrFull},
		{slices.Concat([]api.PfxEntry{deny(whole)}, hosts(api.MaxRanges)), 0, api.OK},
		{slices.Concat([]api.PfxEntry{deny(whole)}, hosts(api.MaxRanges+1)), 0, api.ErrFull},
		{slices.Concat(hosts(api.MaxRanges), hosts(api.MaxRanges)), 1024, api.OK},
		// One is taken away by the entry that brings one.
		{slices.Concat([]api.PfxEntry{permit(rng(ten, 31, 31, 32))}, hosts(api.MaxRanges)), 1023, api.OK},
		{slices.Concat([]api.PfxEntry{permit(rng(ten, 32, 32, 32))}, hosts(api.MaxRanges)), 1024, api.OK},
		{slices.Concat([]api.PfxEntry{permit(rng(0, 32, 32, 32))}, hosts(api.MaxRanges)), 0, api.ErrFull},
		{slices.Concat([]api.PfxEntry{deny(rng(0, 32, 32, 32))}, hosts(api.MaxRanges)), 1024, api.OK},
		// A range that isn't right takes no room.
		{slices.Concat([]api.PfxEntry{permit(rng(1, 31, 32, 32))}, hosts(api.MaxRanges)), 1024, api.OK},
	} {
		got, e := Flat(x.l)
		if e != x.e || len(got) != x.many {
			t.Errorf("%d: %d ranges, %v", i, len(got), e)
		}
	}
}

// P4.4: pieces count as ranges: with 31 pieces of one range there is room for the others, or there isn't.
func TestFlatFullOfPieces(t *testing.T) {
	block := permit(rng(1<<31, 1, 32, 32))
	cut := deny(rng(all, 32, 32, 32))
	for n, want := range map[int]api.Errno{992: api.OK, 993: api.OK, 994: api.ErrFull, 995: api.ErrFull} {
		got, e := Flat(slices.Concat([]api.PfxEntry{cut}, hosts(n), []api.PfxEntry{block}))
		if e != want || e == api.OK && len(got) != n+31 {
			t.Errorf("%d: %d ranges, %v", n, len(got), e)
		}
	}
}

// P4.4: entries are counted by nothing but the ranges they leave.
func TestFlatOfMany(t *testing.T) {
	l := slices.Repeat([]api.PfxEntry{permit(rng(ten, 8, 8, 9)), permit(rng(0, 0, 0, 33)), deny(rng(ten, 8, 8, 8))}, 40000)
	if got, e := Flat(l); e != api.OK || !slices.Equal(got, []api.Range{rng(ten, 8, 8, 9)}) {
		t.Errorf("%d ranges, %v", len(got), e)
	}
}

// P4.5: Kinds.
func TestKinds(t *testing.T) {
	for _, x := range []struct {
		l    []api.Range
		want []api.Prefix
	}{
		{nil, []api.Prefix{{}}},
		{[]api.Range{}, []api.Prefix{{}}},
		{[]api.Range{rng(0, 0, 0, 32)}, []api.Prefix{{}}},
		{[]api.Range{rng(0, 0, 0, 0)}, []api.Prefix{{}, at(0, 1)}},
		{[]api.Range{rng(0, 0, 32, 32)}, []api.Prefix{{}, at(0, 32)}},
		{[]api.Range{rng(0, 0, 8, 16)}, []api.Prefix{{}, at(0, 8)}},
		{[]api.Range{rng(ten, 8, 8, 9)}, []api.Prefix{{}, at(ten, 8)}},
		{[]api.Range{rng(ten, 8, 16, 24)}, []api.Prefix{{}, at(ten, 16)}},
		{[]api.Range{rng(all, 32, 32, 32)}, []api.Prefix{{}, at(all, 32)}},
		{[]api.Range{rng(all, 32, 32, 32), rng(all, 32, 32, 32)}, []api.Prefix{{}, at(all, 32)}},
		// The two halves: what is in neither has no bits.
		{[]api.Range{rng(0, 1, 1, 32), rng(1<<31, 1, 1, 32)}, []api.Prefix{{}, at(0, 1), at(1<<31, 1)}},
		// A kind that isn't there with fewer bits.
		{[]api.Range{rng(0, 0, 0, 8), rng(ten, 8, 8, 9)}, []api.Prefix{{}, at(ten, 8), at(0, 9), at(ten, 9)}},
		// The first of a range is behind another one that begins where it does.
		{[]api.Range{rng(ten, 8, 9, 9), rng(ten, 9, 9, 32)}, []api.Prefix{{}, at(ten, 9), at(ten+1<<23, 9), at(ten, 10)}},
		// A range that others cover has no kind of its own.
		{[]api.Range{rng(0, 0, 1, 1), rng(0, 1, 1, 1), rng(1<<31, 1, 1, 1)}, []api.Prefix{{}, at(0, 1), at(1<<31, 1)}},
		// Only the last block has none of the others.
		{[]api.Range{rng(0, 1, 2, 2), rng(1<<31, 2, 2, 2), rng(0, 0, 2, 32)}, []api.Prefix{{}, at(0, 2), at(1<<31, 2), at(3<<30, 2)}},
		{wrongRanges(), []api.Prefix{{}}},
		{append(wrongRanges(), rng(ten, 8, 8, 9)), []api.Prefix{{}, at(ten, 8)}},
	} {
		if got, e := Kinds(x.l); e != api.OK || !slices.Equal(got, x.want) {
			t.Errorf("Kinds(%v): %v %v, want %v", x.l, got, e, x.want)
		}
	}
}

// P4.5: the kinds are what going through all right prefixes would find.
func TestKindsByWorld(t *testing.T) {
	prefixes := world()
	for _, l := range drawnRanges() {
		var want []api.Prefix
		for _, p := range prefixes {
			if !slices.ContainsFunc(want, func(q api.Prefix) bool { return oneKind(l, p, q) }) {
				want = append(want, p)
			}
		}
		if got, e := Kinds(l); e != api.OK || !slices.Equal(got, want) {
			t.Fatalf("Kinds(%v): %v %v, want %v", l, got, e, want)
		}
	}
}

// P4.5: more than MaxList ranges are too many, be they right or not, or the same.
func TestKindsFull(t *testing.T) {
	for _, n := range []int{api.MaxList + 1, api.MaxList + 2, 100000} {
		for _, x := range []api.Range{{}, rng(0, 0, 0, 32), rng(0, 0, 0, 33), rng(ten, 8, 8, 9)} {
			if got, e := Kinds(slices.Repeat([]api.Range{x}, n)); len(got) != 0 || e != api.ErrFull {
				t.Errorf("%d ranges: %v %v", n, got, e)
			}
		}
	}
	if got, e := Kinds(make([]api.Range, api.MaxList)); e != api.OK || !slices.Equal(got, []api.Prefix{{}, at(0, 1)}) {
		t.Errorf("%v %v", got, e)
	}
}

// P4.5: MaxList ranges, each of which tells kinds apart, the last one too.
func TestKindsOfMost(t *testing.T) {
	var l []api.Range
	want := []api.Prefix{{}}
	for i := range uint32(api.MaxList) {
		l = append(l, rng(i<<24, 8, 8, 32))
		want = append(want, at(i<<24, 8))
	}
	if got, e := Kinds(l); e != api.OK || !slices.Equal(got, want) {
		t.Errorf("%v %v, want %v", got, e, want)
	}
}

// drawnPrefix is a right prefix that is near an edge of one of some ranges, or anywhere.
func drawnPrefix(chance *rand.Rand, l []api.Range) api.Prefix {
	n, addr := chance.IntN(33), chance.Uint32()
	if x := l[chance.IntN(len(l))]; chance.IntN(4) > 0 {
		n = min(max(x.Ge+chance.IntN(3)-1, 0), 32)
		addr = x.Base.Addr + (chance.Uint32N(3)-1)<<(32-n)
	}
	return prefix(digits(addr)[:n])
}

// P4.6: of each right prefix there is just one of its kind among the kinds, and that doesn't come behind it.
func TestOneKindEach(t *testing.T) {
	chance := rand.New(rand.NewPCG(47, 48))
	for range 25 {
		var l []api.Range
		for range 1 + chance.IntN(api.MaxList) {
			n := chance.IntN(33)
			ge := n + chance.IntN(33-n)
			l = append(l, api.Range{Base: prefix(digits(chance.Uint32() & 0xc3ffffff)[:n]), Ge: ge, Le: ge + chance.IntN(33-ge)})
		}
		kinds, e := Kinds(l)
		if e != api.OK || !slices.IsSortedFunc(kinds, before) {
			t.Fatalf("Kinds(%v): %v %v", l, kinds, e)
		}
		for range 80 {
			p := drawnPrefix(chance, l)
			var same []api.Prefix
			for _, q := range kinds {
				if oneKind(l, p, q) {
					same = append(same, q)
				}
			}
			if len(same) != 1 || before(same[0], p) > 0 {
				t.Fatalf("Kinds(%v): of %v's kind: %v", l, p, same)
			}
		}
	}
}

// before orders prefixes by Len, then by Addr.
func before(p, q api.Prefix) int {
	if p.Len != q.Len {
		return p.Len - q.Len
	}
	return strings.Compare(digits(p.Addr), digits(q.Addr))
}

// Rule 4: what is handed in stays as it was, its spare room too, and an answer is new memory.
func TestArgumentsStay(t *testing.T) {
	for _, l := range drawnLists() {
		whole := slices.Concat(l, []api.PfxEntry{deny(rng(1, 2, 3, 4)), permit(rng(5, 6, 7, 8))})
		list, was := whole[:len(l)], slices.Clone(whole)
		Match(list, at(ten, 8))
		got, _ := Flat(list)
		want := slices.Clone(got)
		again, _ := Flat(list)
		clear(got[:cap(got)])
		if !slices.Equal(whole, was) {
			t.Fatalf("%v is now %v", was, whole)
		}
		clear(whole)
		if !slices.Equal(again, want) {
			t.Fatalf("Flat(%v): the answer isn't new memory", was)
		}
	}
	for _, l := range drawnRanges() {
		whole := slices.Concat(l, []api.Range{rng(1, 2, 3, 4), rng(5, 6, 7, 8)})
		list, was := whole[:len(l)], slices.Clone(whole)
		got, _ := Kinds(list)
		want := slices.Clone(got)
		again, _ := Kinds(list)
		clear(got[:cap(got)])
		if !slices.Equal(whole, was) || !slices.Equal(again, want) {
			t.Fatalf("Kinds(%v): the argument is now %v, the answer %v", was, whole, again)
		}
	}
}

// Rule 4: Minus answers new memory at each call.
func TestMinusIsNew(t *testing.T) {
	for _, x := range drawnPairs() {
		got := Minus(x[0], x[1])
		want := slices.Clone(got)
		again := Minus(x[0], x[1])
		clear(got[:cap(got)])
		if !slices.Equal(again, want) {
			t.Fatalf("Minus(%v): the answer isn't new memory", x)
		}
	}
}
