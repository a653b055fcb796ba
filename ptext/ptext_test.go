package ptext

import (
	"testing"

	"dragoman/api"
	"dragoman/pat"
	"dragoman/pattest"
)

// What has been read, and what stands next.
func TestSigns(t *testing.T) {
	r := NewReader("a\x00b")
	if next, ok := r.Next(); next != 'a' || !ok || r.Took('b') || !r.Took('a') {
		t.Error("the first byte")
	}
	if next, ok := r.Next(); next != 0 || !ok || !r.Took(0) {
		t.Error("a byte 0")
	}
	r.Must('b')
	if next, ok := r.Next(); next != 0 || ok || r.Took(0) || r.Took('b') {
		t.Error("the end")
	}
	if p, e := r.Done(pat.Any()); e != api.OK || !pattest.Same(p, pat.Any()) {
		t.Error(p, e)
	}
	r.Must(0)
	if p, e := r.Done(pat.Any()); e != api.ErrForm || !pattest.Same(p, api.Pat{}) {
		t.Error(p, e)
	}
}

// Numbers, and what stands behind them.
func TestNumber(t *testing.T) {
	for s, want := range map[string]struct {
		n uint32
		e api.Errno
	}{
		"0":          {0, api.OK},
		"7":          {7, api.OK},
		"10":         {10, api.OK},
		"4294967295": {pattest.Last, api.OK},
		"4294967296": {0, api.ErrRange},
		"":           {0, api.ErrForm},
		"a":          {0, api.ErrForm},
		"07":         {7, api.ErrForm},
		"7a":         {7, api.ErrForm},
	} {
		r := NewReader(s)
		n := r.Number()
		if _, e := r.Done(pat.Any()); n != want.n || e != want.e {
			t.Errorf("%q: %d %d", s, n, e)
		}
	}
}

// A text that isn't of the grammar counts ahead of a number outside, and that ahead of what is too full.
func TestErrorsInOrder(t *testing.T) {
	r := NewReader("1")
	if r.Times(pat.Any(), 200, 200); r.full != true {
		t.Error("not full")
	}
	r.Number()
	if _, e := r.Done(pat.Any()); e != api.ErrFull {
		t.Error(e)
	}
	r.Rise(1, 1)
	if _, e := r.Done(pat.Any()); e != api.ErrFull {
		t.Error(e)
	}
	r.Rise(2, 1)
	if _, e := r.Done(pat.Any()); e != api.ErrRange {
		t.Error(e)
	}
	r.Must('1')
	if _, e := r.Done(pat.Any()); e != api.ErrForm {
		t.Error(e)
	}
}

// A dialect's own signs stand where they belong, the others in any dialect.
func TestText(t *testing.T) {
	p := pattest.Alt(pattest.Cat(pattest.Num(1), pattest.One(2, 3, 5, 6)), pattest.Star(pattest.Maybe(pattest.One(2, 3))))
	for want, style := range map[string]Style{
		"1_([2-3]|[5-6])|([2-3]|)*": {Between: "_", Open: "[", Close: "]"},
		"1 (2-3|5-6)|(2-3|)*":       {Between: " "},
	} {
		if s := style.Text(p); s != want {
			t.Errorf("%q, want %q", s, want)
		}
	}
}
