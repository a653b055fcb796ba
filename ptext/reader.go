// Package ptext is what the dialects' texts of patterns have in common: layers 6 and 7 read and write by it.
package ptext

import (
	"dragoman/api"
	"dragoman/pat"
)

// last is the greatest number.
const last = 4294967295

// Reader reads a text from its first byte on, and puts together what it says.
// It goes on behind a number that is outside, and behind what is too full, since a text that isn't of the grammar counts first.
type Reader struct {
	text    string
	at      int  // how many bytes have been read
	wrong   bool // the text isn't of the grammar
	outside bool // a number is above the last one, or above one that it may not be above
	full    bool // what the text says isn't right
}

// NewReader is a reader that has read nothing of a text.
func NewReader(text string) Reader {
	return Reader{text: text}
}

// Done is what comes of a text that has been read, and of the pattern that it says: the error that counts first, else that pattern.
func (r *Reader) Done(p api.Pat) (api.Pat, api.Errno) {
	switch {
	case r.wrong || r.at < len(r.text):
		return api.Pat{}, api.ErrForm
	case r.outside:
		return api.Pat{}, api.ErrRange
	case r.full:
		return api.Pat{}, api.ErrFull
	}
	return p, api.OK
}

// Next is the byte that stands next, if there is one.
func (r *Reader) Next() (byte, bool) {
	if r.at == len(r.text) {
		return 0, false
	}
	return r.text[r.at], true
}

// Took reads a sign, if it stands next.
func (r *Reader) Took(sign byte) bool {
	next, ok := r.Next()
	if !ok || next != sign {
		return false
	}
	r.at++
	return true
}

// Must reads a sign that has to stand next.
func (r *Reader) Must(sign byte) {
	if !r.Took(sign) {
		r.refuse()
	}
}

// Number reads a number that has to stand next.
func (r *Reader) Number() uint32 {
	from, n := r.at, uint64(0)
digits:
	if next, _ := r.Next(); '0' <= next && next <= '9' {
		n = min(10*n+uint64(next-'0'), last+1)
		r.at++
		goto digits
	}
	if r.at == from || r.text[from] == '0' && r.at > from+1 {
		r.refuse()
	}
	r.outside = r.outside || n > last
	return uint32(n)
}

// Rise says of two numbers that have been read that the first one may not be above the second one.
func (r *Reader) Rise(lo, hi uint32) {
	r.outside = r.outside || lo > hi
}

// One is a One of the numbers from lo to hi.
func (r *Reader) One(lo, hi uint32) api.Pat {
	r.Rise(lo, hi)
	return api.Pat{Kind: api.One, Set: []api.Span{{Lo: lo, Hi: hi}}}
}

// Joined is the pattern of a list if that has just one, else a Cat or an Alt of them.
func (r *Reader) Joined(kind int, l []api.Pat) api.Pat {
	if len(l) == 1 {
		return l[0]
	}
	return r.kept(api.Pat{Kind: kind, Subs: l})
}

// Star is the Star of a pattern.
func (r *Reader) Star(p api.Pat) api.Pat {
	return r.kept(api.Pat{Kind: api.Star, Subs: []api.Pat{p}})
}

// Maybe is an Alt of a pattern and of a Cat without Subs.
func (r *Reader) Maybe(p api.Pat) api.Pat {
	return r.kept(api.Pat{Kind: api.Alt, Subs: []api.Pat{p, {Kind: api.Cat}}})
}

// Times is a pattern from least to most times, without end with most below 0.
func (r *Reader) Times(p api.Pat, least, most int) api.Pat {
	out, e := pat.Times(p, least, most)
	if e != api.OK {
		return r.tooFull()
	}
	return out
}

// kept is a pattern that is right, or one that stands for it.
func (r *Reader) kept(p api.Pat) api.Pat {
	if !pat.Right(p) {
		return r.tooFull()
	}
	return p
}

// tooFull stands for a pattern that isn't right.
// What is made of such a one isn't right either, and each sign behind it could make it many times as large.
func (r *Reader) tooFull() api.Pat {
	r.full = true
	return api.Pat{Kind: api.Cat}
}

// refuse ends the reading: the text isn't of the grammar, whatever else it has.
func (r *Reader) refuse() {
	r.wrong = true
	r.at = len(r.text)
}
