package jpat

import (
	"dragoman/api"
	"dragoman/pat"
	"dragoman/ptext"
)

// reader reads a text by the grammar, a method for each part of it.
// Its own took, must and number leave out the blanks ahead.
type reader struct {
	ptext.Reader
}

// pattern reads cats with | between them, and the blanks behind the last one.
func (r *reader) pattern() api.Pat {
	l := []api.Pat{r.cat()}
	for r.took('|') {
		l = append(l, r.cat())
	}
	return r.Joined(api.Alt, l)
}

// cat reads items, as many as there are.
func (r *reader) cat() api.Pat {
	var l []api.Pat
	for r.begins() {
		l = append(l, r.item())
	}
	return r.Joined(api.Cat, l)
}

// item reads an atom and the signs behind it.
func (r *reader) item() api.Pat {
	x := r.atom()
	for {
		switch {
		case r.took('*'):
			x = r.Star(x)
		case r.took('+'):
			x = r.Times(x, 1, -1)
		case r.took('?'):
			x = r.Maybe(x)
		case r.took('{'):
			least, most := r.counts()
			x = r.Times(x, least, most)
		default:
			return x
		}
	}
}

// counts reads what stands behind a { : how many times at least, and at most; the latter is below 0 if there is no end.
func (r *reader) counts() (least, most int) {
	m := r.number()
	n := m
	if r.took(',') {
		if r.took('}') {
			return int(m), -1
		}
		n = r.number()
	}
	r.must('}')
	r.Rise(m, n)
	return int(m), int(n)
}

// atom reads what an item begins with.
func (r *reader) atom() api.Pat {
	switch {
	case r.took('.'):
		return pat.Any()
	case r.took('!'):
		return api.Pat{Kind: api.Alt}
	case r.took('('):
		x := r.pattern()
		r.must(')')
		return x
	}
	lo := r.number()
	hi := lo
	if r.took('-') {
		hi = r.number()
	}
	return r.One(lo, hi)
}

// begins says whether an item stands next.
func (r *reader) begins() bool {
	r.blanks()
	next, _ := r.Next()
	return '0' <= next && next <= '9' || next == '.' || next == '!' || next == '('
}

// took reads a sign, if it stands next.
func (r *reader) took(sign byte) bool {
	r.blanks()
	return r.Took(sign)
}

// must reads a sign that has to stand next.
func (r *reader) must(sign byte) {
	r.blanks()
	r.Must(sign)
}

// number reads a number that has to stand next.
func (r *reader) number() uint32 {
	r.blanks()
	return r.Number()
}

// blanks leaves out what stands ahead of signs and numbers, and at the end.
func (r *reader) blanks() {
next:
	if r.Took(' ') {
		goto next
	}
}
