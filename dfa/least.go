package dfa

import "slices"

// way is a state, and the first path that leads to it.
type way struct {
	state int
	path  []uint32
}

// Least is the first path that is taken.
func Least(d Dfa) ([]uint32, bool) {
	if !Right(d) {
		return nil, false
	}
	known := make([]bool, len(d.Next))
	known[0] = true
	// The ways stand in the order of their paths, since each hands on by rising numbers: so the first one to a state is the first of all to it.
	ways := []way{{}}
	for i := 0; i < len(ways); i++ {
		w := ways[i]
		if d.Accept[w.state] {
			return w.path, true
		}
		for a, s := range d.Atoms {
			next, n := d.Next[w.state][a], max(s.Lo, 1)
			if n <= s.Hi && !known[next] {
				known[next] = true
				ways = append(ways, way{next, append(slices.Clone(w.path), n)})
			}
		}
	}
	return nil, false
}
