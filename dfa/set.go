package dfa

import (
	"iter"
	"math/bits"

	"pidgin/automaton"
)

// A set of the automaton's states, at one place of a subject, is a text: a byte of signs, and behind it a bit for each state. Of the states those alone are put in that take a byte; what the others do there, the signs say. So sets that go on alike are one.
const (
	endsHere  byte = 1 << iota // a match ends here, ahead of a byte
	endsAtEnd                  // a match ends here, if the subject does
	goesOn                     // some state may take a byte
	restarts                   // a match begins behind each byte, too
)

// reached gathers what is reached at a place.
type reached struct {
	graph *automaton.Graph
	begin bool   // the place is the beginning of the subject
	set   []byte // what was gathered so far, as a set
	met   []bool // the states that were reached ahead of a byte
	atEnd []bool // the states that were reached if the subject ends
}

func newReached(g *automaton.Graph, begin bool) *reached {
	return &reached{graph: g, begin: begin, set: make([]byte, 1+(g.Len()+7)/8), met: make([]bool, g.Len()), atEnd: make([]bool, g.Len())}
}

// enter tells the set in which a call begins.
func enter(g *automaton.Graph, kind start) string {
	r := newReached(g, kind.begin)
	if kind.again {
		r.restart()
	} else {
		r.reach(g.Start())
	}
	return string(r.set)
}

// follow tells the set that comes behind a set by a byte.
func follow(g *automaton.Graph, set string, b byte) string {
	r := newReached(g, false)
	for at := range members(set) {
		if next, ok := g.Take(at, b); ok {
			r.reach(next)
		}
	}
	if set[0]&restarts != 0 {
		r.restart()
	}
	return string(r.set)
}

// members hands on the states that a set has.
func members(set string) iter.Seq[int] {
	return func(hand func(at int) bool) {
		for i := 1; i < len(set); i++ {
			for rest := set[i]; rest != 0; rest &= rest - 1 {
				if !hand(8*(i-1) + bits.TrailingZeros8(rest)) {
					return
				}
			}
		}
	}
}

// restart puts in that a match begins here, and behind each byte that follows.
func (r *reached) restart() {
	r.set[0] |= restarts | goesOn
	r.reach(r.graph.Start())
}

// reach puts in a state, and what it leads to without a byte: whether the subject ends here is not known yet, so both are gone through.
func (r *reached) reach(at int) {
	r.graph.Reach(at, automaton.Place{Begin: r.begin}, r.put)
	r.graph.Reach(at, automaton.Place{Begin: r.begin, End: true}, r.putAtEnd)
}

// put puts in a state that is reached ahead of a byte, and tells whether it was not there.
func (r *reached) put(at int) bool {
	if r.met[at] {
		return false
	}
	r.met[at] = true
	switch {
	case automaton.Accepts(at):
		r.set[0] |= endsHere
	case r.graph.Eats(at):
		r.set[0] |= goesOn
		r.set[1+at/8] |= 1 << (at % 8)
	}
	return true
}

// putAtEnd puts in a state that is reached if the subject ends, and tells whether it was not there.
func (r *reached) putAtEnd(at int) bool {
	if r.atEnd[at] {
		return false
	}
	r.atEnd[at] = true
	if automaton.Accepts(at) {
		r.set[0] |= endsAtEnd
	}
	return true
}
