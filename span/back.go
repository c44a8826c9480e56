package span

import (
	"iter"
	"slices"

	"pidgin/api"
	"pidgin/automaton"
)

// none is a place that is none; endless a greatest number of times that is none.
const (
	none    = -1
	endless = -1
)

// thread is a state that is reached on the way back, and the place from which that way comes: of several the greatest.
type thread struct {
	state int
	end   int
}

// walk goes through a subject from behind.
type walk struct {
	graph   *automaton.Graph // of the part, its rows turned round
	subject []byte
	threads []thread // what is reached at this place; those with greater ends stand ahead
	before  []thread // what was reached at the place behind it
	reached []int    // of each state the place at which it was reached last: as places fall, none need be forgotten
	far     int      // the greatest end of the part, if it begins at this place
}

// graphOf tells the automaton of a part, for the way back.
func graphOf(re api.Re) *automaton.Graph {
	return automaton.Of(turned(re))
}

// turned tells an expression that matches, from behind, what re matches.
func turned(re api.Re) api.Re {
	kids := make([]api.Re, 0, len(re.Kids))
	for _, kid := range re.Kids {
		kids = append(kids, turned(kid))
	}
	if re.Kind == api.ReCat {
		slices.Reverse(kids)
	}
	re.Kids = kids
	return re
}

// back hands on each place from j down to i, and the greatest end of a part that begins there: of the places that ends tells; none, if there is none.
func (p *parse) back(part *automaton.Graph, i, j int, ends func(at int) bool) iter.Seq2[int, int] {
	return func(yield func(at, far int) bool) {
		w := &walk{graph: part, subject: p.subject, reached: slices.Repeat([]int{none}, part.Len())}
		for at := j; at >= i; at-- {
			w.follow(at)
			if ends(at) {
				w.enter(part.Start(), at, at)
			}
			if !yield(at, w.far) {
				return
			}
		}
	}
}

// follow goes on to a place from the one behind it.
func (w *walk) follow(at int) {
	w.before, w.threads, w.far = w.threads, w.before[:0], none
	for _, one := range w.before {
		if next, ok := w.graph.Take(one.state, w.subject[at]); ok {
			w.enter(next, one.end, at)
		}
	}
}

// enter puts in a state, and what it leads to without a byte. What is in already has an end as great, or greater.
func (w *walk) enter(state, end, at int) {
	w.graph.Reach(state, automaton.PlaceOf(at, len(w.subject)), func(state int) bool {
		if w.reached[state] == at {
			return false
		}
		w.reached[state] = at
		w.threads = append(w.threads, thread{state: state, end: end})
		if automaton.Accepts(state) {
			w.far = end
		}
		return true
	})
}
