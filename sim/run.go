package sim

import (
	"pidgin/api"
	"pidgin/automaton"
	"pidgin/nfa"
)

// aim is what a pass is after.
type aim int

const (
	longest aim = iota // of the matches that begin at its first place, the longest
	first              // of all matches those that begin first, and of these the longest
	some               // any match
)

// thread is a state that is reached, and where what comes to it begins: of several places the first.
type thread struct {
	state int
	from  int
}

// run is a simulation over a subject.
type run struct {
	graph      *automaton.Graph
	subject    []byte
	sets       [2][]thread        // what is reached at a place and at the next one, in turns; those that begin earlier stand ahead
	generation int                // how many sets were begun; the last of them is the one that is filled
	filled     [api.MaxStates]int // of each state the generation that it is in: so a set is emptied without touching them all
	visits     int
}

// runOf tells a run of an automaton that may be nil.
func runOf(n *nfa.Nfa, s []byte) *run {
	return &run{graph: (*automaton.Graph)(n), subject: s}
}

// pass goes once through the subject, from a place on.
func (r *run) pass(from int, what aim) api.Hit {
	var hit api.Hit
	if r.graph.Len() == 0 || from < 0 || from > len(r.subject) {
		return hit
	}
	r.visits = 0
	r.turn()
	for at := from; at <= len(r.subject); at++ {
		if at == from || what != longest && !hit.Ok {
			r.enter(r.graph.Start(), at, at)
		}
		now := r.turn()
		if len(now) == 0 { // nothing goes on, and nothing will begin
			break
		}
		for _, one := range now {
			if hit.Ok && one.from > hit.Span.Start { // it begins too late, and so do all behind it
				break
			}
			if !automaton.Accepts(one.state) {
				r.follow(one, at)
				continue
			}
			hit.Ok, hit.Span = true, api.Span{Start: one.from, End: at}
			if what == some {
				goto told
			}
		}
	}
told:
	hit.Visits = r.visits
	return hit
}

// turn tells the set that was filled, and begins the next one.
func (r *run) turn() []thread {
	now := r.sets[r.generation%2]
	r.generation++
	r.sets[r.generation%2] = r.sets[r.generation%2][:0]
	return now
}

// follow puts in what a state leads to by the byte at a place.
func (r *run) follow(one thread, at int) {
	if at == len(r.subject) {
		return
	}
	if next, ok := r.graph.Take(one.state, r.subject[at]); ok {
		r.enter(next, one.from, at+1)
	}
}

// enter puts in a state of the place at, and what it leads to there without a byte. What is in already began earlier or at the same place, and stays.
func (r *run) enter(state, from, at int) {
	r.graph.Reach(state, automaton.PlaceOf(at, len(r.subject)), func(state int) bool {
		if r.filled[state] == r.generation {
			return false
		}
		r.filled[state] = r.generation
		r.visits++
		turn := r.generation % 2
		r.sets[turn] = append(r.sets[turn], thread{state: state, from: from})
		return true
	})
}

// all goes on with a new pass behind each match, until there is none.
func (r *run) all() []api.Span {
	var spans []api.Span
	from, last := 0, -1 // where the next pass begins, and where the last match ended
	for {
		hit := r.pass(from, first)
		switch {
		case !hit.Ok:
			return spans
		case hit.Span == api.Span{Start: last, End: last}:
			from = last + 1
		default:
			spans = append(spans, hit.Span)
			last = hit.Span.End
			from = last
		}
	}
}
