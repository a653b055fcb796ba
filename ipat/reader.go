package ipat

import (
	"dragoman/api"
	"dragoman/pat"
)

// reader reads a text from its first byte on, and says what it says.
// It goes on behind a number that is outside, and behind what is too full, since a text that isn't of the grammar counts first.
type reader struct {
	text    string
	at      int  // how many bytes have been read
	wrong   bool // the text isn't of the grammar
	outside bool // a number is above the last one, or an N above its M
	full    bool // what the text says isn't right
}

// pattern reads the whole text.
func (r *reader) pattern() api.Pat {
	begins := r.took('^')
	x := r.alt()
	ends := r.took('$')
	if r.at < len(r.text) {
		r.refuse()
	}
	if begins && ends {
		return x
	}
	out := api.Pat{Kind: api.Cat}
	if !begins {
		out.Subs = append(out.Subs, star(pat.Any()))
	}
	out.Subs = append(out.Subs, x)
	if !ends {
		out.Subs = append(out.Subs, star(pat.Any()))
	}
	return r.kept(out)
}

// alt reads cats with | between them.
func (r *reader) alt() api.Pat {
	out := api.Pat{Kind: api.Alt, Subs: []api.Pat{r.cat()}}
	for r.took('|') {
		out.Subs = append(out.Subs, r.cat())
	}
	return r.single(out)
}

// cat reads items with _ between them, or none.
func (r *reader) cat() api.Pat {
	out := api.Pat{Kind: api.Cat}
	if r.ended() {
		return out
	}
	out.Subs = append(out.Subs, r.item())
	for r.took('_') {
		out.Subs = append(out.Subs, r.item())
	}
	return r.single(out)
}

// item reads an atom and the signs behind it.
func (r *reader) item() api.Pat {
	x := r.atom()
	for {
		switch {
		case r.took('*'):
			x = r.kept(star(x))
		case r.took('+'):
			x = r.again(x)
		case r.took('?'):
			x = r.kept(api.Pat{Kind: api.Alt, Subs: []api.Pat{x, {Kind: api.Cat}}})
		default:
			return x
		}
	}
}

// atom reads what an item begins with.
func (r *reader) atom() api.Pat {
	switch {
	case r.took('.'):
		return pat.Any()
	case r.took('!'):
		return api.Pat{Kind: api.Alt}
	case r.took('('):
		x := r.alt()
		r.must(')')
		return x
	case r.took('['):
		lo := r.number()
		r.must('-')
		hi := r.number()
		r.must(']')
		return r.one(lo, hi)
	}
	n := r.number()
	return r.one(n, n)
}

// number reads a number; one that is above the last one counts as just behind it.
func (r *reader) number() uint64 {
	from, n := r.at, uint64(0)
digits:
	if r.at < len(r.text) && '0' <= r.text[r.at] && r.text[r.at] <= '9' {
		n = min(10*n+uint64(r.text[r.at]-'0'), last+1)
		r.at++
		goto digits
	}
	if r.at == from || r.text[from] == '0' && r.at > from+1 {
		r.refuse()
	}
	return n
}

// one is a One of the numbers from lo to hi.
func (r *reader) one(lo, hi uint64) api.Pat {
	if hi > last || lo > hi {
		r.outside = true
	}
	return api.Pat{Kind: api.One, Set: []api.Span{{Lo: uint32(lo), Hi: uint32(hi)}}}
}

// again is a Cat of x and of the Star of x.
func (r *reader) again(x api.Pat) api.Pat {
	out, e := pat.Times(x, 1, -1)
	if e != api.OK {
		return r.tooFull()
	}
	return out
}

// single is the part of an Alt or a Cat that has just one, else the whole.
func (r *reader) single(p api.Pat) api.Pat {
	if len(p.Subs) == 1 {
		return p.Subs[0]
	}
	return r.kept(p)
}

// kept is a pattern that is right, or one that stands for it.
func (r *reader) kept(p api.Pat) api.Pat {
	if !pat.Right(p) {
		return r.tooFull()
	}
	return p
}

// tooFull stands for a pattern that isn't right.
// What holds such a one isn't right either, and each + behind it would double it.
func (r *reader) tooFull() api.Pat {
	r.full = true
	return api.Pat{Kind: api.Cat}
}

// ended says whether what stands next ends a cat, if it is of the grammar at all.
func (r *reader) ended() bool {
	if r.at == len(r.text) {
		return true
	}
	switch r.text[r.at] {
	case '|', ')', '$':
		return true
	}
	return false
}

// took reads a sign, if it stands next.
func (r *reader) took(sign byte) bool {
	if r.at == len(r.text) || r.text[r.at] != sign {
		return false
	}
	r.at++
	return true
}

// must reads a sign that has to stand next.
func (r *reader) must(sign byte) {
	if !r.took(sign) {
		r.refuse()
	}
}

// refuse ends the reading: the text isn't of the grammar, whatever else it has.
func (r *reader) refuse() {
	r.wrong = true
	r.at = len(r.text)
}

// star is the Star of a pattern.
func star(p api.Pat) api.Pat {
	return api.Pat{Kind: api.Star, Subs: []api.Pat{p}}
}
