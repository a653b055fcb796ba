package route

import (
	"math"
	"math/rand/v2"
	"slices"
	"testing"

	"dragoman/api"
)

// all is the greatest number of 32 bits.
const all uint32 = 4294967295

// address writes a.b.c.d as the document says it.
func address(a, b, c, d uint32) uint32 { return 16777216*a + 65536*b + 256*c + d }

// bit is an address's bit, the first one being bit 1.
func bit(addr uint32, n int) uint32 {
	for range 32 - n {
		addr /= 2
	}
	return addr % 2
}

// rightByWords is the document's own word for a right prefix, bit by bit.
func rightByWords(p api.Prefix) bool {
	if p.Len < 0 || p.Len > 32 {
		return false
	}
	for n := p.Len + 1; n <= 32; n++ {
		if bit(p.Addr, n) == 1 {
			return false
		}
	}
	return true
}

// validByWords is the document's own word for a valid route.
func validByWords(r api.Route) bool {
	if !rightByWords(r.Prefix) || len(r.Path) > 255 || len(r.Comms) > 255 {
		return false
	}
	for _, n := range r.Path {
		if n == 0 {
			return false
		}
	}
	for i, c := range r.Comms {
		for _, later := range r.Comms[i+1:] {
			if later <= c {
				return false
			}
		}
	}
	return r.Origin == 0 || r.Origin == 1 || r.Origin == 2
}

// same says whether two routes have the same in each field; nil and empty lists are one.
func same(a, b api.Route) bool {
	return slices.Equal(a.Path, b.Path) && slices.Equal(a.Comms, b.Comms) && a.Prefix == b.Prefix &&
		a.Pref == b.Pref && a.Med == b.Med && a.Origin == b.Origin && a.Hop == b.Hop
}

// lengths is those that a prefix may have, and others.
func lengths() []int {
	out := []int{math.MinInt, math.MinInt32, -33, -32, -31, -2, math.MaxInt, math.MaxInt32, 63, 64, 65, 255, 256}
	for n := -1; n <= 34; n++ {
		out = append(out, n)
	}
	return out
}

// addresses is some whose bits lie in all places.
func addresses() []uint32 {
	out := []uint32{0, all, 0x55555555, 0xaaaaaaaa, address(10, 1, 2, 3), address(192, 168, 255, 1)}
	for n := range 32 {
		out = append(out, 1<<n, all<<n, all>>n)
	}
	return out
}

// rising is n communities that rise.
func rising(n int) []uint32 {
	var out []uint32
	for i := range uint32(n) {
		out = append(out, 5*i)
	}
	return out
}

// numbers is a short list of small numbers, so that lists begin alike; now and then there is a great one.
func numbers(chance *rand.Rand) []uint32 {
	var out []uint32
	for range chance.IntN(5) {
		n := uint32(chance.IntN(4))
		if chance.IntN(9) == 0 {
			n = all - n
		}
		out = append(out, n)
	}
	return out
}

// drawn is many routes, valid ones and others, the same ones at each run.
func drawn() []api.Route {
	chance := rand.New(rand.NewPCG(31, 32))
	lens := []int{0, 8, 16, 31, 32, 0, 8, 16, 31, 32, -1, 33, math.MinInt, math.MaxInt}
	origins := []int{0, 1, 2, 0, 1, 2, -1, 3, math.MinInt, math.MaxInt}
	out := []api.Route{{}, {Path: []uint32{}, Comms: []uint32{}}}
	for range 500 {
		r := api.Route{
			Prefix: api.Prefix{Addr: addresses()[chance.IntN(6)], Len: lens[chance.IntN(len(lens))]},
			Path:   numbers(chance), Comms: numbers(chance),
			Pref: uint32(chance.IntN(2)), Med: uint32(chance.IntN(2)) * all,
			Origin: origins[chance.IntN(len(origins))], Hop: uint32(chance.IntN(3)),
		}
		if chance.IntN(2) == 0 { // else hardly one would be valid
			r.Prefix = api.Prefix{Addr: uint32(chance.IntN(3)) << 30, Len: 2}
			r.Comms = rising(chance.IntN(4))
		}
		out = append(out, r)
	}
	return out
}

// P3.1: Mask.
func TestMask(t *testing.T) {
	for _, x := range []struct{ p, want api.Prefix }{
		{api.Prefix{Addr: address(10, 1, 2, 3), Len: 8}, api.Prefix{Addr: address(10, 0, 0, 0), Len: 8}},
		{api.Prefix{Addr: address(10, 1, 2, 3), Len: 31}, api.Prefix{Addr: address(10, 1, 2, 2), Len: 31}},
		{api.Prefix{Addr: all, Len: 0}, api.Prefix{}},
		{api.Prefix{Addr: all, Len: 1}, api.Prefix{Addr: address(128, 0, 0, 0), Len: 1}},
		{api.Prefix{Addr: all, Len: 32}, api.Prefix{Addr: all, Len: 32}},
		{api.Prefix{Addr: all, Len: 33}, api.Prefix{Addr: all, Len: 32}},
		{api.Prefix{Addr: all, Len: math.MaxInt}, api.Prefix{Addr: all, Len: 32}},
		{api.Prefix{Addr: all, Len: -1}, api.Prefix{}},
		{api.Prefix{Addr: all, Len: math.MinInt}, api.Prefix{}},
	} {
		if got := Mask(x.p); got != x.want {
			t.Errorf("Mask(%v): %v, want %v", x.p, got, x.want)
		}
	}
}

// P3.1: Mask leaves the first bits as they are, and has 0 behind them.
func TestMaskBitByBit(t *testing.T) {
	for _, n := range lengths() {
		for _, a := range addresses() {
			got := Mask(api.Prefix{Addr: a, Len: n})
			counts := n
			if n < 0 {
				counts = 0
			}
			if n > 32 {
				counts = 32
			}
			if got.Len != counts {
				t.Fatalf("Mask(%x %d): %d bits", a, n, got.Len)
			}
			for i := 1; i <= 32; i++ {
				want := uint32(0)
				if i <= counts {
					want = bit(a, i)
				}
				if bit(got.Addr, i) != want {
					t.Fatalf("Mask(%x %d): %x: bit %d", a, n, got.Addr, i)
				}
			}
		}
	}
}

// P3.1: Valid asks for a right prefix.
func TestValidPrefix(t *testing.T) {
	for _, n := range lengths() {
		for _, a := range addresses() {
			p := api.Prefix{Addr: a, Len: n}
			if got := Valid(api.Route{Prefix: p}); got != rightByWords(p) {
				t.Errorf("Valid of %x %d: %v", a, n, got)
			}
		}
	}
}

// P3.1: Valid.
func TestValid(t *testing.T) {
	ones := slices.Repeat([]uint32{1}, 300)
	with := func(l []uint32, at int, n uint32) []uint32 {
		out := slices.Clone(l)
		out[at] = n
		return out
	}
	for i, x := range []struct {
		r    api.Route
		want bool
	}{
		{api.Route{}, true},
		{api.Route{Path: []uint32{}, Comms: []uint32{}}, true},
		{api.Route{Prefix: api.Prefix{Addr: all, Len: 32}, Path: []uint32{all, 1, all}, Comms: []uint32{0, all}, Pref: all, Med: all, Origin: 2, Hop: all}, true},
		{api.Route{Path: []uint32{0}}, false},
		{api.Route{Path: []uint32{0, 1}}, false},
		{api.Route{Path: []uint32{1, 0}}, false},
		{api.Route{Path: []uint32{3, 2, 2, 3}}, true},
		{api.Route{Path: ones[:254]}, true},
		{api.Route{Path: ones[:255]}, true},
		{api.Route{Path: ones[:256]}, false},
		{api.Route{Path: ones}, false},
		{api.Route{Path: with(ones[:255], 254, 0)}, false},
		{api.Route{Comms: []uint32{0}}, true},
		{api.Route{Comms: []uint32{1, 1}}, false},
		{api.Route{Comms: []uint32{0, 0}}, false},
		{api.Route{Comms: []uint32{2, 1}}, false},
		{api.Route{Comms: []uint32{1, 2, 3}}, true},
		{api.Route{Comms: []uint32{1, 3, 2}}, false},
		{api.Route{Comms: []uint32{1, 3, 3}}, false},
		{api.Route{Comms: []uint32{3, 1, 2}}, false},
		{api.Route{Comms: []uint32{all, 0}}, false},
		{api.Route{Comms: rising(254)}, true},
		{api.Route{Comms: rising(255)}, true},
		{api.Route{Comms: rising(256)}, false},
		{api.Route{Comms: with(rising(255), 254, 1265)}, false},
		{api.Route{Path: ones[:255], Comms: rising(255)}, true},
		{api.Route{Path: ones[:255], Comms: rising(256)}, false},
		{api.Route{Path: ones[:256], Comms: rising(255)}, false},
		{api.Route{Origin: 1}, true},
		{api.Route{Origin: 2}, true},
		{api.Route{Origin: 3}, false},
		{api.Route{Origin: -1}, false},
		{api.Route{Origin: math.MaxInt}, false},
		{api.Route{Origin: math.MinInt}, false},
	} {
		if got := Valid(x.r); got != x.want {
			t.Errorf("%d: Valid: %v", i, got)
		}
	}
	valid := 0
	for _, r := range drawn() {
		if Valid(r) {
			valid++
		}
		if got := Valid(r); got != validByWords(r) {
			t.Errorf("Valid(%v): %v", r, got)
		}
	}
	if valid < 20 {
		t.Errorf("only %d of the drawn routes are valid", valid)
	}
}

// P3.2: Canon.
func TestCanon(t *testing.T) {
	for _, x := range []struct{ comms, want []uint32 }{
		{nil, nil},
		{[]uint32{}, nil},
		{[]uint32{7, 3, 7}, []uint32{3, 7}},
		{[]uint32{3, 7}, []uint32{3, 7}},
		{[]uint32{7, 3}, []uint32{3, 7}},
		{[]uint32{5, 5, 5}, []uint32{5}},
		{[]uint32{all, 0, all, 0}, []uint32{0, all}},
		{[]uint32{1 << 31, 1<<31 - 1, 1}, []uint32{1, 1<<31 - 1, 1 << 31}},
	} {
		if got := Canon(api.Route{Comms: x.comms}); !same(got, api.Route{Comms: x.want}) {
			t.Errorf("Canon of %v: %v", x.comms, got)
		}
	}
	// What isn't valid beside the prefix and the communities stays.
	r := api.Route{
		Prefix: api.Prefix{Addr: address(10, 1, 2, 3), Len: 8}, Path: []uint32{2, 1, 0, 2, 2}, Comms: []uint32{9, 4},
		Pref: 11, Med: 12, Origin: -5, Hop: address(10, 1, 2, 4),
	}
	want := r
	want.Prefix, want.Comms = api.Prefix{Addr: address(10, 0, 0, 0), Len: 8}, []uint32{4, 9}
	if got := Canon(r); !same(got, want) {
		t.Errorf("%v, want %v", got, want)
	}
}

// P3.2: Canon by the document's words: the communities are those that r has, and rise.
func TestCanonByWords(t *testing.T) {
	for _, r := range drawn() {
		got := Canon(r)
		want := r
		want.Prefix, want.Comms = Mask(r.Prefix), got.Comms
		if !same(got, want) {
			t.Fatalf("Canon(%v): %v", r, got)
		}
		if !validByWords(api.Route{Comms: got.Comms}) {
			t.Fatalf("Canon(%v): %v don't rise", r, got.Comms)
		}
		for _, c := range slices.Concat(r.Comms, got.Comms) {
			if !slices.Contains(got.Comms, c) || !slices.Contains(r.Comms, c) {
				t.Fatalf("Canon(%v): %v: %d", r, got.Comms, c)
			}
		}
	}
}

// P3.2: neither Canon nor Copy cuts a list that is too long.
func TestLongLists(t *testing.T) {
	falling := rising(100000)
	slices.Reverse(falling)
	r := api.Route{Path: make([]uint32, 100000), Comms: slices.Concat(falling, falling)}
	if got := Copy(r); !same(got, r) {
		t.Error("Copy changes a long list")
	}
	if got := Canon(r); !same(got, api.Route{Path: r.Path, Comms: rising(100000)}) {
		t.Error("Canon of long lists")
	}
}

// P3.2: Copy is the same route, be it valid or not.
func TestCopy(t *testing.T) {
	for _, r := range drawn() {
		if got := Copy(r); !same(got, r) {
			t.Fatalf("Copy(%v): %v", r, got)
		}
	}
}

// ladder is routes each of which comes ahead of the next one; each field's step is held against greater fields of less weight.
func ladder() []api.Route {
	return []api.Route{
		{},
		{Hop: 1},
		{Hop: all},
		{Origin: 1},
		{Origin: 2, Hop: 3},
		{Med: 1},
		{Med: all, Origin: -1},
		{Pref: 1},
		{Pref: 1 << 31, Med: 3},
		{Comms: []uint32{0}},
		{Comms: []uint32{1}, Pref: 5, Med: 5, Origin: 5, Hop: 5},
		{Comms: []uint32{1, 0}},
		{Comms: []uint32{1, 2}},
		{Comms: []uint32{2}},
		{Comms: []uint32{all}},
		{Path: []uint32{0}},
		{Path: []uint32{1}, Comms: []uint32{9}},
		{Path: []uint32{1, 0}},
		{Path: []uint32{1, 1}},
		{Path: []uint32{1, 2}},
		{Path: []uint32{1, 2, 0}},
		{Path: []uint32{2}},
		{Path: []uint32{1 << 31}},
		{Prefix: api.Prefix{Len: 1}},
		{Prefix: api.Prefix{Len: 8}, Path: []uint32{7}},
		{Prefix: api.Prefix{Len: 32}},
		{Prefix: api.Prefix{Len: math.MaxInt}},
		{Prefix: api.Prefix{Addr: 1, Len: math.MinInt}},
		{Prefix: api.Prefix{Addr: 1}},
		{Prefix: api.Prefix{Addr: 1, Len: 32}},
		{Prefix: api.Prefix{Addr: address(10, 0, 0, 0), Len: 8}},
		{Prefix: api.Prefix{Addr: all}},
	}
}

// P3.3: Cmp.
func TestCmp(t *testing.T) {
	l := ladder()
	for i := range l {
		for k := range l {
			want := 0
			if i < k {
				want = -1
			}
			if i > k {
				want = 1
			}
			if got := Cmp(l[i], l[k]); got != want {
				t.Errorf("Cmp(%v, %v): %d", l[i], l[k], got)
			}
		}
	}
}

// P3.3: numbers below 0 are less than 0, and differences that wrap round aren't asked.
func TestCmpFarApart(t *testing.T) {
	for _, x := range [][2]api.Route{
		{{Origin: math.MinInt}, {Origin: math.MaxInt}},
		{{Origin: -1}, {}},
		{{Prefix: api.Prefix{Len: math.MinInt}}, {Prefix: api.Prefix{Len: math.MaxInt}}},
		{{Prefix: api.Prefix{Len: -1}}, {}},
		{{}, {Pref: all}},
		{{}, {Med: all}},
		{{}, {Hop: all}},
		{{Path: []uint32{0}}, {Path: []uint32{all}}},
		{{Comms: []uint32{0}}, {Comms: []uint32{all}}},
	} {
		if Cmp(x[0], x[1]) != -1 || Cmp(x[1], x[0]) != 1 {
			t.Errorf("Cmp(%v, %v): %d", x[0], x[1], Cmp(x[0], x[1]))
		}
	}
}

// P3.3, rule 3: nil and empty lists are one, and lists are compared to their ends.
func TestCmpLists(t *testing.T) {
	if got := Cmp(api.Route{}, api.Route{Path: []uint32{}, Comms: []uint32{}}); got != 0 {
		t.Errorf("nil and empty: %d", got)
	}
	long := slices.Repeat([]uint32{1}, 100000)
	more := slices.Clone(long)
	more[len(more)-1] = 2
	if Cmp(api.Route{Path: long}, api.Route{Path: more}) != -1 || Cmp(api.Route{Comms: more}, api.Route{Comms: long}) != 1 {
		t.Error("the last number isn't asked")
	}
	if Cmp(api.Route{Path: long}, api.Route{Path: slices.Clone(long)}) != 0 {
		t.Error("long paths that are the same")
	}
}

// P3.4: the order is one: 0 only of the same, turned round the other way, and passed on from one to another.
func TestOrderIsOne(t *testing.T) {
	l := slices.Concat(ladder(), drawn()[:150])
	for _, a := range l {
		for _, b := range l {
			ab := Cmp(a, b)
			if ab < -1 || ab > 1 || (ab == 0) != same(a, b) || Cmp(b, a) != -ab {
				t.Fatalf("Cmp(%v, %v): %d, and %d", a, b, ab, Cmp(b, a))
			}
			if ab > 0 {
				continue
			}
			for _, c := range l {
				if Cmp(b, c) <= 0 && Cmp(a, c) != min(ab, Cmp(b, c)) {
					t.Fatalf("%v, %v, %v: %d %d %d", a, b, c, ab, Cmp(b, c), Cmp(a, c))
				}
			}
		}
	}
}

// P3.4: Canon of Canon is Canon, and what is valid is its own Canon.
func TestCanonStays(t *testing.T) {
	for _, r := range slices.Concat(drawn(), ladder()) {
		one := Canon(r)
		if two := Canon(one); !same(one, two) || Cmp(one, two) != 0 {
			t.Fatalf("Canon(%v): %v, then %v", r, one, two)
		}
		if Valid(r) && (!same(one, r) || Cmp(one, r) != 0) {
			t.Fatalf("Canon(%v): %v", r, one)
		}
	}
}

// whole is a route whose lists have spare room, and those lists with it.
func whole(r api.Route) (with api.Route, lists [2][]uint32) {
	lists = [2][]uint32{slices.Concat(r.Path, []uint32{70, 60, 70}), slices.Concat(r.Comms, []uint32{50, 40, 50})}
	with = r
	with.Path, with.Comms = lists[0][:len(r.Path)], lists[1][:len(r.Comms)]
	return with, lists
}

// fill writes n all over a list and its spare room.
func fill(l []uint32, n uint32) {
	l = l[:cap(l)]
	for i := range l {
		l[i] = n
	}
}

// Rule 4: what is handed in stays as it was, its spare room too.
func TestArgumentsStay(t *testing.T) {
	for _, r := range drawn() {
		with, lists := whole(r)
		was := [2][]uint32{slices.Clone(lists[0]), slices.Clone(lists[1])}
		Valid(with)
		Cmp(with, with)
		for _, got := range []api.Route{Canon(with), Copy(with)} {
			// Writing the answer's whole room must not be seen in what was handed in.
			fill(got.Path, 99)
			fill(got.Comms, 99)
		}
		if !slices.Equal(lists[0], was[0]) || !slices.Equal(lists[1], was[1]) {
			t.Fatalf("%v is now %v", was, lists)
		}
	}
}

// Rule 4: an answer is new memory: neither what was handed in nor its other list is seen in it.
func TestAnswersAreNew(t *testing.T) {
	for _, r := range drawn() {
		for name, call := range map[string]func(api.Route) api.Route{"Canon": Canon, "Copy": Copy} {
			with, lists := whole(r)
			got, want := call(with), call(r)
			fill(lists[0], 99)
			fill(lists[1], 99)
			if !same(got, want) {
				t.Fatalf("%s(%v) hangs on what was handed in", name, r)
			}
			fill(got.Path, 98)
			if !slices.Equal(got.Comms, want.Comms) {
				t.Fatalf("%s(%v): its lists share memory", name, r)
			}
		}
	}
}

// Rule 4: two lists of one argument may share memory; those of the answer don't.
func TestSharedLists(t *testing.T) {
	l := []uint32{9, 7, 9}
	for _, got := range []api.Route{Canon(api.Route{Path: l, Comms: l}), Copy(api.Route{Path: l, Comms: l})} {
		if !slices.Equal(got.Path, []uint32{9, 7, 9}) {
			t.Errorf("Path: %v", got.Path)
		}
		was := slices.Clone(got.Path)
		fill(got.Comms, 1)
		if !slices.Equal(got.Path, was) {
			t.Error("the answer's lists share memory")
		}
	}
	if !slices.Equal(l, []uint32{9, 7, 9}) {
		t.Errorf("the argument is now %v", l)
	}
}
