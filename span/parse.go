package span

import (
	"slices"

	"pidgin/api"
	"pidgin/automaton"
	"pidgin/retext"
)

// parse is the chosen parse of a match, while it is made.
type parse struct {
	subject []byte
	spans   []api.Span
}

// parseOf tells a parse in which no group has a span.
func parseOf(r *retext.Re, s []byte) *parse {
	return &parse{subject: s, spans: slices.Repeat([]api.Span{{Start: none, End: none}}, r.Groups()+1)}
}

// spansOf tells the spans of a whole expression that matches from i to j.
func (p *parse) spansOf(tree api.Re, i, j int) []api.Span {
	p.spans[0] = api.Span{Start: i, End: j}
	p.fill(tree, i, j)
	return p.spans
}

// grouped tells whether there is a group within a part.
func grouped(re api.Re) bool {
	return re.Kind == api.ReGroup || slices.ContainsFunc(re.Kids, grouped)
}

// fill puts in the spans of a part that matches from i to j, and tells whether it has any.
func (p *parse) fill(re api.Re, i, j int) bool {
	if !grouped(re) {
		return false
	}
	switch re.Kind {
	case api.ReGroup:
		p.spans[re.Group] = api.Span{Start: i, End: j}
		p.fill(re.Kids[0], i, j)
		return true
	case api.ReCat:
		return p.row(re.Kids, i, j)
	case api.ReAlt: // the first branch that has spans is the best: the groups of those behind it are later ones, and it has none of them
		return slices.ContainsFunc(re.Kids, func(kid api.Re) bool {
			return grouped(kid) && p.matches(kid, i, j) && p.fill(kid, i, j)
		})
	}
	start, end := p.last(re, i, j)
	return start != none && p.fill(re.Kids[0], start, end)
}

// row puts in the spans of parts that match from i to j, one behind the other: each goes as far as those behind it let it.
func (p *parse) row(kids []api.Re, i, j int) bool {
	parts, lefts := make([]*automaton.Graph, len(kids)), make([]*places, len(kids))
	left := only(i, j)
	for at, kid := range slices.Backward(kids) {
		parts[at], lefts[at] = graphOf(kid), left
		left = p.begins(parts[at], i, j, left)
	}
	some := false
	for at, kid := range kids {
		end := p.farthest(parts[at], i, j, lefts[at])
		some = p.fill(kid, i, end) || some
		i = end
	}
	return some
}

// last tells where the last iteration of a part that matches from i to j begins and ends: at none, if there is no iteration.
func (p *parse) last(re api.Re, i, j int) (start, end int) {
	kid := graphOf(re.Kids[0])
	if i == j {
		if re.Max != 0 && p.matches(re.Kids[0], i, i) { // it does, where there must be an iteration
			return i, i
		}
		return none, none
	}
	lefts := p.behind(re, kid, i, j)
	for before, left := range lefts {
		end := p.farthest(kid, i, j, left)
		if end == j && before+1 < re.Min { // what must still be is empty
			return j, j
		}
		if end == j {
			return i, j
		}
		i = end
	}
	return p.lastOf(kid, i, j, lefts[len(lefts)-1]), j
}

// behind tells, of the first iteration of a part from i to j, the second and so on, the places at which they may end so that those behind can be done. If there is no end of them, the last list is that of all others, too.
func (p *parse) behind(re api.Re, kid *automaton.Graph, i, j int) []*places {
	count, left := re.Max, only(i, j)
	if re.Max == endless {
		count = max(re.Min, 1)
		left = p.begins(graphOf(api.Re{Kind: api.ReRep, Max: endless, Kids: re.Kids}), i, j, left)
	}
	lefts := make([]*places, count)
	lefts[count-1] = left
	for at := count - 1; at > 0; at-- {
		lefts[at-1] = p.begins(kid, i, j, lefts[at])
		if at >= re.Min {
			lefts[at-1].put(j)
		}
	}
	return lefts
}

// lastOf tells where the last of many iterations from i to j begins, each of which may end at those places.
func (p *parse) lastOf(kid *automaton.Graph, i, j int, left *places) int {
	ends := make([]int, j-i)
	for at, far := range p.back(kid, i, j, left.has) {
		if at < j {
			ends[at-i] = far
		}
	}
	start := i
	for ends[start-i] < j {
		start = ends[start-i]
	}
	return start
}

// begins tells the places, from i to j, from which a part goes to one of those that are left.
func (p *parse) begins(part *automaton.Graph, i, j int, left *places) *places {
	all := placesOf(i, j)
	for at, far := range p.back(part, i, j, left.has) {
		if far != none {
			all.put(at)
		}
	}
	return all
}

// farthest tells the greatest of those places to which a part goes from i.
func (p *parse) farthest(part *automaton.Graph, i, j int, left *places) int {
	end := none
	for _, far := range p.back(part, i, j, left.has) {
		end = far
	}
	return end
}

// matches tells whether a part matches from i to j.
func (p *parse) matches(re api.Re, i, j int) bool {
	return p.farthest(graphOf(re), i, j, only(i, j)) == j
}
