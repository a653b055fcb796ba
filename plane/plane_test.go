package plane

import (
	"math/rand/v2"
	"slices"
	"testing"

	"dragoman/api"
)

// all is the greatest community.
const all uint32 = 4294967295

// at writes a community by its AS number and its value.
func at(number, value uint32) uint32 { return 65536*number + value }

// box writes a box by its parts: the AS number and the value of Lo, then those of Hi.
func box(number, value, toNumber, toValue uint32) api.Box {
	return api.Box{Lo: at(number, value), Hi: at(toNumber, toValue)}
}

// parts is a community's AS number and value, by division: the document's own words.
func parts(c uint32) (number, value uint32) { return c / 65536, c % 65536 }

// lies is the document's own word for what lies in a box, apart from In.
func lies(b api.Box, c uint32) bool {
	number, value := parts(c)
	fromNumber, fromValue := parts(b.Lo)
	toNumber, toValue := parts(b.Hi)
	return !(number < fromNumber || toNumber < number || value < fromValue || toValue < value)
}

// oneKind says whether each box has both communities or neither.
func oneKind(l []api.Box, c, d uint32) bool {
	return !slices.ContainsFunc(l, func(b api.Box) bool { return lies(b, c) != lies(b, d) })
}

// steps is the numbers at which boxes by drawnBox may begin or end, with what is behind them: what holds of these holds of all.
func steps() []uint32 {
	var out []uint32
	for n := range uint32(7) {
		out = append(out, n)
	}
	for n := uint32(65530); n <= 65535; n++ {
		out = append(out, n)
	}
	return out
}

// grid is the communities whose parts are both of steps, rising.
func grid() []uint32 {
	var out []uint32
	for _, number := range steps() {
		for _, value := range steps() {
			out = append(out, at(number, value))
		}
	}
	return out
}

// drawnBox is a box whose edges crowd near 0 and near 65535; some have nothing.
func drawnBox(chance *rand.Rand) api.Box {
	end := func() uint32 {
		n := uint32(chance.IntN(6))
		if chance.IntN(3) == 0 {
			return 65535 - n%5
		}
		return n
	}
	b := box(end(), end(), end(), end())
	if chance.IntN(4) > 0 {
		fromNumber, fromValue := parts(b.Lo)
		toNumber, toValue := parts(b.Hi)
		b = box(min(fromNumber, toNumber), min(fromValue, toValue), max(fromNumber, toNumber), max(fromValue, toValue))
	}
	return b
}

// drawn is many lists of boxes, the same ones at each run.
func drawn() [][]api.Box {
	chance := rand.New(rand.NewPCG(21, 22))
	var out [][]api.Box
	for range 400 {
		var l []api.Box
		for range chance.IntN(9) {
			l = append(l, drawnBox(chance))
		}
		out = append(out, l)
	}
	return out
}

// P2.1: In.
func TestIn(t *testing.T) {
	for _, x := range []struct {
		b    api.Box
		c    uint32
		want bool
	}{
		{box(65000, 0, 65000, 65535), at(65000, 7), true},
		{box(65000, 0, 65000, 65535), at(65000, 0), true},
		{box(65000, 0, 65000, 65535), at(65000, 65535), true},
		{box(65000, 0, 65000, 65535), at(64999, 65535), false},
		{box(65000, 0, 65000, 65535), at(65001, 0), false},
		{box(3, 5, 9, 6), at(3, 5), true},
		{box(3, 5, 9, 6), at(9, 6), true},
		{box(3, 5, 9, 6), at(3, 6), true},
		{box(3, 5, 9, 6), at(9, 5), true},
		{box(3, 5, 9, 6), at(6, 4), false},
		{box(3, 5, 9, 6), at(6, 7), false},
		{box(3, 5, 9, 6), at(2, 5), false},
		{box(3, 5, 9, 6), at(10, 5), false},
		{box(3, 5, 3, 5), at(3, 5), true},
		{box(3, 5, 3, 5), at(5, 3), false},
		{api.Box{}, 0, true},
		{api.Box{}, 1, false},
		{api.Box{}, at(1, 0), false},
		{api.Box{Hi: all}, 0, true},
		{api.Box{Hi: all}, all, true},
		{api.Box{Lo: all, Hi: all}, all, true},
		{api.Box{Lo: all, Hi: all}, all - 1, false},
		{api.Box{Lo: all, Hi: all}, at(65534, 65535), false},
		{api.Box{Lo: all}, 0, false},
		{api.Box{Lo: all}, all, false},
		// A greater AS number alone, and a greater value alone, leave nothing.
		{box(1, 0, 0, 9), at(1, 0), false},
		{box(1, 0, 0, 9), at(0, 9), false},
		{box(0, 9, 5, 8), at(0, 9), false},
		{box(0, 9, 5, 8), at(3, 8), false},
		{box(0, 9, 5, 8), at(1, 0), false},
	} {
		if got := In(x.b, x.c); got != x.want {
			t.Errorf("In(%x, %x): %v", x.b, x.c, got)
		}
	}
	for _, l := range drawn() {
		for _, b := range l {
			for _, c := range grid() {
				if got := In(b, c); got != lies(b, c) {
					t.Fatalf("In(%x, %x): %v", b, c, got)
				}
			}
		}
	}
}

// P2.1: Any.
func TestAny(t *testing.T) {
	for _, x := range []struct {
		l    []api.Box
		c    uint32
		want bool
	}{
		{nil, 0, false},
		{[]api.Box{}, all, false},
		{[]api.Box{box(1, 1, 2, 2)}, at(2, 1), true},
		{[]api.Box{box(1, 1, 2, 2)}, at(3, 1), false},
		{[]api.Box{box(1, 1, 2, 2), box(5, 5, 6, 6)}, at(1, 2), true},
		{[]api.Box{box(1, 1, 2, 2), box(5, 5, 6, 6)}, at(6, 5), true},
		{[]api.Box{box(1, 1, 2, 2), box(5, 5, 6, 6)}, at(1, 5), false},
		{[]api.Box{box(2, 0, 1, 9), box(0, 9, 9, 8)}, at(1, 9), false},
	} {
		if got := Any(x.l, x.c); got != x.want {
			t.Errorf("Any(%x, %x): %v", x.l, x.c, got)
		}
	}
	for _, l := range drawn() {
		for _, c := range grid() {
			want := slices.ContainsFunc(l, func(b api.Box) bool { return lies(b, c) })
			if got := Any(l, c); got != want {
				t.Fatalf("Any(%x, %x): %v", l, c, got)
			}
		}
	}
}

// P2.1: Any has no limit of boxes.
func TestAnyOfMany(t *testing.T) {
	l := make([]api.Box, 100000)
	if Any(l, 1) {
		t.Error("none has 1")
	}
	l[len(l)-1].Hi = 1
	if !Any(l, 1) {
		t.Error("the last one has 1")
	}
}

// P2.2: Meet.
func TestMeet(t *testing.T) {
	none := api.Box{}
	for _, x := range []struct {
		a, b, want api.Box
		ok         bool
	}{
		{box(1, 5, 9, 9), box(3, 0, 20, 6), box(3, 5, 9, 6), true},
		{box(1, 1, 5, 5), box(2, 2, 3, 3), box(2, 2, 3, 3), true},
		{box(1, 1, 5, 5), box(5, 5, 9, 9), box(5, 5, 5, 5), true},
		{box(1, 1, 5, 5), box(5, 6, 9, 9), none, false},
		{box(1, 1, 5, 5), box(6, 5, 9, 9), none, false},
		{box(1, 1, 5, 5), box(6, 6, 9, 9), none, false},
		{box(1, 7, 5, 9), box(0, 0, 9, 6), none, false},
		{none, none, none, true},
		{none, api.Box{Hi: all}, none, true},
		{api.Box{Hi: all}, api.Box{Hi: all}, api.Box{Hi: all}, true},
		{api.Box{Hi: all}, api.Box{Lo: all, Hi: all}, api.Box{Lo: all, Hi: all}, true},
		{none, api.Box{Lo: all, Hi: all}, none, false},
		{api.Box{Hi: all}, box(2, 0, 1, 9), none, false},
		{api.Box{Hi: all}, box(1, 9, 2, 8), none, false},
		{box(2, 0, 1, 9), box(2, 0, 1, 9), none, false},
		{api.Box{Lo: all}, api.Box{Lo: all}, none, false},
	} {
		for _, pair := range [][2]api.Box{{x.a, x.b}, {x.b, x.a}} {
			if got, ok := Meet(pair[0], pair[1]); got != x.want || ok != x.ok {
				t.Errorf("Meet(%x): %x %v, want %x %v", pair, got, ok, x.want, x.ok)
			}
		}
	}
}

// P2.2: what lies in the met box lies in both, and false says that nothing does.
func TestMeetIsBoth(t *testing.T) {
	chance := rand.New(rand.NewPCG(23, 24))
	points := grid()
	for range 3000 {
		a, b := drawnBox(chance), drawnBox(chance)
		got, ok := Meet(a, b)
		some := false
		for _, c := range points {
			both := lies(a, c) && lies(b, c)
			some = some || both
			if ok && lies(got, c) != both {
				t.Fatalf("Meet(%x, %x): %x: %x: want %v", a, b, got, c, both)
			}
		}
		if ok != some || !ok && got != (api.Box{}) {
			t.Fatalf("Meet(%x, %x): %x %v", a, b, got, ok)
		}
	}
}

// P2.3: Cells.
func TestCells(t *testing.T) {
	for _, x := range []struct {
		l    []api.Box
		want []uint32
	}{
		{nil, []uint32{0}},
		{[]api.Box{}, []uint32{0}},
		{[]api.Box{{Hi: all}}, []uint32{0}},
		{[]api.Box{{Lo: all}}, []uint32{0}},
		{[]api.Box{box(2, 0, 1, 9), box(0, 9, 9, 8)}, []uint32{0}},
		{[]api.Box{box(1, 1, 1, 2)}, []uint32{0, at(1, 1)}},
		{[]api.Box{box(1, 1, 1, 2), box(1, 1, 1, 2)}, []uint32{0, at(1, 1)}},
		{[]api.Box{{}}, []uint32{0, 1}},
		{[]api.Box{{Lo: all, Hi: all}}, []uint32{0, all}},
		{[]api.Box{box(0, 0, 7, 65535)}, []uint32{0, at(8, 0)}},
		{[]api.Box{box(0, 0, 65535, 7)}, []uint32{0, 8}},
		{[]api.Box{box(65535, 0, 65535, 65535)}, []uint32{0, at(65535, 0)}},
		{[]api.Box{box(0, 65535, 65535, 65535)}, []uint32{0, 65535}},
		// A kind that two boxes make is met at their common corner.
		{[]api.Box{box(1, 5, 9, 9), box(3, 0, 20, 6)}, []uint32{0, at(1, 5), at(3, 0), at(3, 5)}},
		// A frame: the ring around the inner box is one kind, though it is cut apart on the grid.
		{[]api.Box{box(1, 1, 5, 5), box(2, 2, 4, 4)}, []uint32{0, at(1, 1), at(2, 2)}},
		// The least one of a kind isn't a corner of its own box where another box covers that.
		{[]api.Box{box(1, 1, 5, 5), box(1, 1, 1, 3)}, []uint32{0, at(1, 1), at(1, 4)}},
		{[]api.Box{box(1, 1, 5, 5), box(1, 1, 1, 9)}, []uint32{0, at(1, 1), at(1, 6), at(2, 1)}},
	} {
		got, e := Cells(x.l)
		if e != api.OK || !slices.Equal(got, x.want) {
			t.Errorf("Cells(%x): %x %v, want %x", x.l, got, e, x.want)
		}
	}
}

// P2.3: the cells are what going through all communities would find.
func TestCellsByGrid(t *testing.T) {
	points := grid()
	for _, l := range drawn() {
		var want []uint32
		for _, c := range points {
			if !slices.ContainsFunc(want, func(d uint32) bool { return oneKind(l, c, d) }) {
				want = append(want, c)
			}
		}
		if got, e := Cells(l); e != api.OK || !slices.Equal(got, want) {
			t.Fatalf("Cells(%x): %x %v, want %x", l, got, e, want)
		}
	}
}

// P2.3: more than MaxBoxes boxes are too many, be they empty or the same.
func TestCellsFull(t *testing.T) {
	for _, n := range []int{api.MaxBoxes + 1, api.MaxBoxes + 2, 100000} {
		for _, b := range []api.Box{{}, {Lo: all}, {Hi: all}} {
			if got, e := Cells(slices.Repeat([]api.Box{b}, n)); len(got) != 0 || e != api.ErrFull {
				t.Errorf("%d boxes: %x %v", n, got, e)
			}
		}
	}
	if got, e := Cells(make([]api.Box, api.MaxBoxes)); e != api.OK || !slices.Equal(got, []uint32{0, 1}) {
		t.Errorf("%x %v", got, e)
	}
}

// most is MaxBoxes boxes that make as many kinds as bands of AS numbers that cross bands of values can.
func most() []api.Box {
	var l []api.Box
	for i := range uint32(api.MaxBoxes / 2) {
		l = append(l, box(10*i+5, 0, 10*i+7, 65535), box(0, 10*i+5, 65535, 10*i+7))
	}
	return l
}

// P2.3: MaxBoxes boxes, each of which tells kinds apart.
func TestCellsOfMost(t *testing.T) {
	got, e := Cells(most())
	var want []uint32
	for _, number := range bands() {
		for _, value := range bands() {
			want = append(want, at(number, value))
		}
	}
	if e != api.OK || !slices.Equal(got, want) {
		t.Errorf("%d cells, want %d: %v", len(got), len(want), e)
	}
}

// bands is the least AS number, or value, of each kind that most's boxes make along a side.
func bands() []uint32 {
	out := []uint32{0}
	for i := range uint32(api.MaxBoxes / 2) {
		out = append(out, 10*i+5)
	}
	return out
}

// P2.4: of each community there is just one of its kind among the cells, and none of them is greater.
func TestOneCellEach(t *testing.T) {
	chance := rand.New(rand.NewPCG(25, 26))
	for range 60 {
		var l []api.Box
		for range 1 + chance.IntN(api.MaxBoxes) {
			l = append(l, api.Box{Lo: chance.Uint32(), Hi: chance.Uint32() | 0xc000c000})
		}
		cells, e := Cells(l)
		if e != api.OK || !slices.IsSorted(cells) {
			t.Fatalf("Cells(%x): %x %v", l, cells, e)
		}
		for range 200 {
			c := chance.Uint32()
			if b := l[chance.IntN(len(l))]; chance.IntN(2) == 0 {
				c = b.Lo ^ chance.Uint32()&1 // beside an edge
			}
			var same []uint32
			for _, d := range cells {
				if oneKind(l, c, d) {
					same = append(same, d)
				}
			}
			if len(same) != 1 || same[0] > c {
				t.Fatalf("Cells(%x): of %x's kind: %x", l, c, same)
			}
		}
	}
}

// Rule 4: what is handed in stays as it was, its spare room too, and an answer is new memory.
func TestArgumentsStay(t *testing.T) {
	spare := []api.Box{box(9, 8, 7, 6), box(5, 4, 3, 2)}
	for _, l := range drawn() {
		whole := slices.Concat(l, spare)
		list, was := whole[:len(l)], slices.Clone(whole)
		got, _ := Cells(list)
		Any(list, at(1, 1))
		want := slices.Clone(got)
		again, _ := Cells(list)
		clear(got[:cap(got)])
		if !slices.Equal(whole, was) {
			t.Fatalf("%x is now %x", was, whole)
		}
		clear(whole)
		if !slices.Equal(again, want) {
			t.Fatalf("Cells(%x): the answer isn't new memory", was)
		}
	}
}
