package automaton

import "pidgin/set"

// Place says which ends of a subject a place in it is.
type Place struct {
	Begin bool
	End   bool
}

// PlaceOf tells what the place at is, in a subject of that length.
func PlaceOf(at, length int) Place {
	return Place{Begin: at == 0, End: at == length}
}

// Start tells the state at which a match begins.
func (g *Graph) Start() int {
	return g.start
}

// Accepts tells whether a match ends at a state.
func Accepts(at int) bool {
	return at == accepting
}

// Eats tells whether a state takes bytes: those of its set, if that has some.
func (g *Graph) Eats(at int) bool {
	return g.states[at].kind == eat
}

// Take tells where a state goes on if it takes a byte, and whether it does.
func (g *Graph) Take(at int, b byte) (next int, ok bool) {
	from := &g.states[at]
	if from.kind != eat || !set.Has(from.set, b) {
		return 0, false
	}
	return from.next, true
}

// Reach hands on a state, and all that it leads to at p without a byte. It goes no further where put tells false, which it must tell of what it was handed before: there are rings.
func (g *Graph) Reach(at int, p Place, put func(at int) bool) {
	if !put(at) {
		return
	}
	to := &g.states[at]
	switch to.kind {
	case fork:
		g.Reach(to.next, p, put)
		g.Reach(to.other, p, put)
	case beginning:
		if p.Begin {
			g.Reach(to.next, p, put)
		}
	case ending:
		if p.End {
			g.Reach(to.next, p, put)
		}
	}
}
