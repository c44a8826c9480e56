package span_test

import (
	"slices"

	"pidgin/api"
)

// The second reading goes by the words of the chapter alone: tables of what each part matches from where to where, and lists of spans that are held against each other. No states.

// table tells of each place i of a subject of up to 63 bytes, as bits, the places j to which a part matches from i.
type table []uint64

// has tells whether there is a match from i to j.
func (a table) has(i, j int) bool {
	return a[i]>>j&1 == 1
}

// standing matches nothing but what is empty.
func standing(s string) table {
	all := make(table, len(s)+1)
	for i := range all {
		all[i] = 1 << i
	}
	return all
}

// then matches one behind the other.
func (a table) then(b table) table {
	all := make(table, len(a))
	for i := range a {
		for k := range b {
			if a.has(i, k) {
				all[i] |= b[k]
			}
		}
	}
	return all
}

// or matches what one of the two does.
func (a table) or(b table) table {
	all := make(table, len(a))
	for i := range a {
		all[i] = a[i] | b[i]
	}
	return all
}

// repeated matches any number of times from least to most; without end, if most is below 0.
func repeated(kid table, least, most int, s string) table {
	times := standing(s)
	for range least {
		times = times.then(kid)
	}
	all := times
	for count := least; count != most; count++ {
		times = times.then(kid)
		more := all.or(times)
		if slices.Equal(more, all) { // from here on nothing comes that is not there
			break
		}
		all = more
	}
	return all
}

// node is a part with what it matches in a subject.
type node struct {
	re    api.Re
	s     string
	what  table
	kids  []*node
	tails []table // of a row: what its kids from each on match, one behind the other
}

// nodeOf tells the node of a part.
func nodeOf(re api.Re, s string) *node {
	n := &node{re: re, s: s, what: make(table, len(s)+1)}
	for _, kid := range re.Kids {
		n.kids = append(n.kids, nodeOf(kid, s))
	}
	switch re.Kind {
	case api.ReSet:
		for i := range len(s) {
			n.what[i] = re.Set[s[i]/64] >> (s[i] % 64) & 1 << (i + 1)
		}
	case api.ReBegin:
		n.what[0] = 1
	case api.ReEnd:
		n.what[len(s)] = 1 << len(s)
	case api.ReCat:
		n.what = standing(s)
		n.tails = make([]table, len(n.kids))
		for at, kid := range slices.Backward(n.kids) {
			n.what = kid.what.then(n.what)
			n.tails[at] = n.what
		}
	case api.ReAlt:
		for _, kid := range n.kids {
			n.what = n.what.or(kid.what)
		}
	case api.ReRep:
		n.what = repeated(n.kids[0].what, re.Min, re.Max, s)
	case api.ReGroup:
		n.what = n.kids[0].what
	}
	return n
}

// list is spans of groups: of those within a part, each with a span or none.
type list map[int]api.Span

// missing is the span that is none.
var missing = api.Span{Start: -1, End: -1}

// without tells the groups within a part, all without spans.
func (n *node) without() list {
	all := list{}
	if n.re.Kind == api.ReGroup {
		all[n.re.Group] = missing
	}
	for _, kid := range n.kids {
		all.add(kid.without())
	}
	return all
}

// add puts in the spans of another list.
func (l list) add(other list) {
	for group, one := range other {
		l[group] = one
	}
}

// spans tells a part's spans from i to j, where it matches.
func (n *node) spans(i, j int) list {
	all := n.without()
	switch n.re.Kind {
	case api.ReGroup:
		all[n.re.Group] = api.Span{Start: i, End: j}
		all.add(n.kids[0].spans(i, j))
	case api.ReCat:
		n.row(all, i, j)
	case api.ReAlt:
		var best list
		for _, kid := range n.kids {
			if kid.what.has(i, j) {
				one := n.without()
				one.add(kid.spans(i, j))
				if best == nil || one.better(best) {
					best = one
				}
			}
		}
		all.add(best)
	case api.ReRep:
		if rounds := n.rounds(i, j, n.re.Min, n.re.Max); len(rounds) > 0 {
			last := rounds[len(rounds)-1]
			all.add(n.kids[0].spans(last.Start, last.End))
		}
	}
	return all
}

// row puts in the spans of a row from i to j.
func (n *node) row(all list, i, j int) {
	last := len(n.kids) - 1
	for at, kid := range n.kids[:last] {
		k := j
		for !kid.what.has(i, k) || !n.tails[at+1].has(k, j) {
			k--
		}
		all.add(kid.spans(i, k))
		i = k
	}
	all.add(n.kids[last].spans(i, j))
}

// better tells whether a list of the groups of one ReAlt is better than another.
func (l list) better(other list) bool {
	for group := range api.MaxGroups + 1 {
		a, b := l[group], other[group]
		switch {
		case a == b:
			continue
		case a == missing || b == missing:
			return b == missing
		case a.Start != b.Start:
			return a.Start < b.Start
		}
		return a.End > b.End
	}
	return false
}

// rounds tells the iterations from i to j, of at least m, and at most n; n below 0 is without end.
func (n *node) rounds(i, j, least, most int) []api.Span {
	kid := n.kids[0].what
	if i == j {
		if least == 0 && (most == 0 || !kid.has(i, i)) {
			return nil
		}
		return slices.Repeat([]api.Span{{Start: i, End: i}}, max(least, 1))
	}
	left := repeated(kid, max(least-1, 0), most-1, n.s)
	k := j
	for !kid.has(i, k) || !(left.has(k, j) || k == j && least <= 1) {
		k--
	}
	first := []api.Span{{Start: i, End: k}}
	if k == j && least <= 1 {
		return first
	}
	return append(first, n.rounds(k, j, max(least-1, 0), most-1)...)
}

// spansOf tells the list that the calls should tell of a match from i to j.
func (n *node) spansOf(groups, i, j int) []api.Span {
	all := []api.Span{{Start: i, End: j}}
	spans := n.spans(i, j)
	for group := 1; group <= groups; group++ {
		all = append(all, spans[group])
	}
	return all
}

// firstFrom tells the first match from a place on, the longest of them; an end of -1, if there is none.
func (n *node) firstFrom(from int) (start, end int) {
	for i := from; i <= len(n.s); i++ {
		for j := len(n.s); j >= i; j-- {
			if n.what.has(i, j) {
				return i, j
			}
		}
	}
	return 0, -1
}
