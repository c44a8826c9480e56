package automaton

// Set is the states that are reached at one place.
type Set struct {
	graph *Graph
	list  []int
	in    []int // the filling in which a state was put in last: so emptying need not touch them all
	now   int   // the filling of this time
}

// NewSet tells a set of the graph's states that has none.
func (g *Graph) NewSet() *Set {
	return &Set{graph: g, in: make([]int, g.Len()), now: 1}
}

// Enter puts in what is reached where a match begins.
func (s *Set) Enter(p Place) {
	s.graph.Reach(s.graph.Start(), p, s.put)
}

// Follow makes it what is reached, at p, behind the byte b from what before has.
func (s *Set) Follow(before *Set, b byte, p Place) {
	s.list = s.list[:0]
	s.now++
	for _, at := range before.list {
		if next, ok := s.graph.Take(at, b); ok {
			s.graph.Reach(next, p, s.put)
		}
	}
}

// Accepts tells whether a match ends here.
func (s *Set) Accepts() bool {
	return s.has(accepting)
}

// Len tells how many states it has.
func (s *Set) Len() int {
	return len(s.list)
}

// put puts in a state, and tells whether it was not there.
func (s *Set) put(at int) bool {
	if s.has(at) {
		return false
	}
	s.in[at] = s.now
	s.list = append(s.list, at)
	return true
}

// has tells whether a state is in it.
func (s *Set) has(at int) bool {
	return s.in[at] == s.now
}
