package automaton

import "pidgin/set"

// Place says which ends of a subject a place in it is.
type Place struct {
	Begin bool
	End   bool
}

// PlaceOf tells what the place at is, in a subject of that length.
func PlaceOf(at, length int) Place {
	return Place{Begin: at == 0, End: at == length}
}

// Set is the states that are reached at one place.
type Set struct {
	graph *Graph
	list  []int
	in    []int // the filling in which a state was put in last: so emptying need not touch them all
	now   int   // the filling of this time
}

// NewSet tells a set of the graph's states that has none.
func (g *Graph) NewSet() *Set {
	return &Set{graph: g, in: make([]int, g.Len()), now: 1}
}

// Enter puts in what is reached where a match begins.
func (s *Set) Enter(p Place) {
	s.add(s.graph.start, p)
}

// Follow makes it what is reached, at p, behind the byte b from what before has.
func (s *Set) Follow(before *Set, b byte, p Place) {
	s.list = s.list[:0]
	s.now++
	for _, at := range before.list {
		if from := s.graph.states[at]; from.kind == eat && set.Has(from.set, b) {
			s.add(from.next, p)
		}
	}
}

// Accepts tells whether a match ends here.
func (s *Set) Accepts() bool {
	return s.has(accepting)
}

// Len tells how many states it has.
func (s *Set) Len() int {
	return len(s.list)
}

// add puts in a state, once, and all that it leads to without a byte.
func (s *Set) add(at int, p Place) {
	if s.has(at) {
		return
	}
	s.in[at] = s.now
	s.list = append(s.list, at)
	to := s.graph.states[at]
	switch to.kind {
	case fork:
		s.add(to.next, p)
		s.add(to.other, p)
	case beginning:
		if p.Begin {
			s.add(to.next, p)
		}
	case ending:
		if p.End {
			s.add(to.next, p)
		}
	}
}

// has tells whether a state is in it.
func (s *Set) has(at int) bool {
	return s.in[at] == s.now
}
