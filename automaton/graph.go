// Package automaton holds what an automaton is made of, for the layers that run one: package nfa, whose Nfa is a Graph, and those above it.
package automaton

import (
	"slices"

	"pidgin/api"
)

// kind is what a state does.
type kind int

const (
	accept    kind = iota // it ends a match
	eat                   // it takes a byte of its set, and goes on at next
	beginning             // it goes on at next, at the beginning of the subject alone
	ending                // it goes on at next, at the end of the subject alone
	fork                  // it goes on at next and at other
)

// accepting is the state that ends a match; there is just one.
const accepting = 0

// endless is a greatest number of times that is none.
const endless = -1

// state is a state; its arrows are places in the list of all.
type state struct {
	kind  kind
	set   api.Set
	next  int
	other int
}

// Graph is an automaton; one without states was not made by Of.
type Graph struct {
	states []state
	start  int
}

// Of tells the automaton of an expression that was read, with intervals unrolled. How many states that takes, the caller asks ahead (nfa.Weight).
func Of(tree api.Re) *Graph {
	g := &Graph{states: []state{{kind: accept}}}
	g.start = g.part(tree, accepting)
	return g
}

// Len tells how many states there are.
func (g *Graph) Len() int {
	if g == nil {
		return 0
	}
	return len(g.states)
}

// part puts in the states of a part that goes on at next, and tells where it begins: at next itself, if it takes no state.
func (g *Graph) part(re api.Re, next int) int {
	switch re.Kind {
	case api.ReSet:
		return g.put(state{kind: eat, set: re.Set, next: next})
	case api.ReBegin:
		return g.put(state{kind: beginning, next: next})
	case api.ReEnd:
		return g.put(state{kind: ending, next: next})
	case api.ReAlt:
		return g.either(re.Kids, next)
	case api.ReRep:
		return g.times(re, next)
	}
	for _, kid := range slices.Backward(re.Kids) { // of a row, or the one of a group
		next = g.part(kid, next)
	}
	return next
}

// either puts in parts of which one is gone through.
func (g *Graph) either(kids []api.Re, next int) int {
	last := len(kids) - 1
	start := g.part(kids[last], next)
	for _, kid := range slices.Backward(kids[:last]) {
		start = g.put(state{kind: fork, next: g.part(kid, next), other: start})
	}
	return start
}

// times puts in a part as often as it must stand and may stand.
func (g *Graph) times(re api.Re, next int) int {
	kid, start := re.Kids[0], next
	if re.Max == endless {
		start = g.put(state{kind: fork, other: next})
		loop := g.part(kid, start)
		g.states[start].next = loop
	}
	for range re.Max - re.Min { // none, where it is endless
		start = g.put(state{kind: fork, next: g.part(kid, start), other: next})
	}
	for range re.Min {
		begin := g.part(kid, start)
		if begin == start { // copies that take no state may be more than can be counted, in one another
			break
		}
		start = begin
	}
	return start
}

// put puts in a state and tells its place.
func (g *Graph) put(s state) int {
	g.states = append(g.states, s)
	return len(g.states) - 1
}
