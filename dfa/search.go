package dfa

// found is things that were found, with their numbers in the order in which they were.
type found[T comparable] struct {
	number map[T]int
	all    []T
}

// of is a thing's number: the next one, if it is new.
func (f *found[T]) of(x T) int {
	n, old := f.number[x]
	if !old {
		n = len(f.all)
		f.number[x] = n
		f.all = append(f.all, x)
	}
	return n
}

// search finds states: the first one, then, state by state, those that come behind it, in the order in which behind tells them.
// It answers them, for each the numbers of those behind it, and whether they are no more than most.
func search[S comparable](first S, most int, behind func(S) []S) ([]S, [][]int, bool) {
	states := found[S]{number: map[S]int{first: 0}, all: []S{first}}
	var next [][]int
finding:
	for len(next) < len(states.all) {
		l := behind(states.all[len(next)])
		row := make([]int, len(l))
		for i, s := range l {
			row[i] = states.of(s)
			if row[i] == most {
				break finding
			}
		}
		next = append(next, row)
	}
	return states.all, next, len(states.all) <= most
}
