package ipat

import (
	"dragoman/api"
	"dragoman/pat"
	"dragoman/ptext"
)

// reader reads a text by the grammar, a method for each part of it.
type reader struct {
	ptext.Reader
}

// pattern reads the whole text.
func (r *reader) pattern() api.Pat {
	var l []api.Pat
	if !r.Took('^') {
		l = append(l, r.Star(pat.Any()))
	}
	l = append(l, r.alt())
	if !r.Took('$') {
		l = append(l, r.Star(pat.Any()))
	}
	return r.Joined(api.Cat, l)
}

// alt reads cats with | between them.
func (r *reader) alt() api.Pat {
	l := []api.Pat{r.cat()}
	for r.Took('|') {
		l = append(l, r.cat())
	}
	return r.Joined(api.Alt, l)
}

// cat reads items with _ between them, or none.
func (r *reader) cat() api.Pat {
	var l []api.Pat
	if !r.ended() {
		l = append(l, r.item())
		for r.Took('_') {
			l = append(l, r.item())
		}
	}
	return r.Joined(api.Cat, l)
}

// item reads an atom and the signs behind it.
func (r *reader) item() api.Pat {
	x := r.atom()
	for {
		switch {
		case r.Took('*'):
			x = r.Star(x)
		case r.Took('+'):
			x = r.Times(x, 1, -1)
		case r.Took('?'):
			x = r.Maybe(x)
		default:
			return x
		}
	}
}

// atom reads what an item begins with.
func (r *reader) atom() api.Pat {
	switch {
	case r.Took('.'):
		return pat.Any()
	case r.Took('!'):
		return api.Pat{Kind: api.Alt}
	case r.Took('('):
		x := r.alt()
		r.Must(')')
		return x
	case r.Took('['):
		lo := r.Number()
		r.Must('-')
		hi := r.Number()
		r.Must(']')
		return r.One(lo, hi)
	}
	n := r.Number()
	return r.One(n, n)
}

// ended says whether what stands next ends a cat, if it is of the grammar at all.
func (r *reader) ended() bool {
	next, ok := r.Next()
	return !ok || next == '|' || next == ')' || next == '$'
}
