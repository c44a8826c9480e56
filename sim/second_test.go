package sim_test

import (
	"math/bits"
	"slices"
	"testing"

	"pidgin/api"
	"pidgin/automaton"
	"pidgin/nfa"
)

// The second reading is a table of what matches from where to where, made of the tree part by part, as nfa's section 'Words' says; no states.

// table tells of each place i of a subject of up to 63 bytes, as bits, the places j to which a part matches from i.
type table []uint64

// tableOf tells what a part matches in a subject.
func tableOf(re api.Re, s string) table {
	all := make(table, len(s)+1)
	switch re.Kind {
	case api.ReSet:
		for i := range len(s) {
			all[i] = re.Set[s[i]/64] >> (s[i] % 64) & 1 << (i + 1)
		}
	case api.ReBegin:
		all[0] = 1
	case api.ReEnd:
		all[len(s)] = 1 << len(s)
	case api.ReCat:
		all = standing(s)
		for _, kid := range re.Kids {
			all = all.then(tableOf(kid, s))
		}
	case api.ReAlt:
		for _, kid := range re.Kids {
			all = all.or(tableOf(kid, s))
		}
	case api.ReRep:
		all = repeated(tableOf(re.Kids[0], s), re.Min, re.Max, s)
	case api.ReGroup:
		all = tableOf(re.Kids[0], s)
	}
	return all
}

// standing matches nothing but what is empty.
func standing(s string) table {
	all := make(table, len(s)+1)
	for i := range all {
		all[i] = 1 << i
	}
	return all
}

// then matches one behind the other.
func (a table) then(b table) table {
	all := make(table, len(a))
	for i, ends := range a {
		for k := range b {
			if ends>>k&1 == 1 {
				all[i] |= b[k]
			}
		}
	}
	return all
}

// or matches what one of the two does.
func (a table) or(b table) table {
	all := make(table, len(a))
	for i := range a {
		all[i] = a[i] | b[i]
	}
	return all
}

// repeated matches any number of times from least to most; without end, if most is -1.
func repeated(kid table, least, most int, s string) table {
	times := standing(s)
	for range least {
		times = times.then(kid)
	}
	all := times
	for count := least; count != most; count++ {
		times = times.then(kid)
		more := all.or(times)
		if slices.Equal(more, all) { // from here on nothing comes that is not there
			break
		}
		all = more
	}
	return all
}

// longestAt tells where the longest match from a place ends; -1, if there is none.
func (a table) longestAt(at int) int {
	return 63 - bits.LeadingZeros64(a[at])
}

// firstFrom tells the first match from a place on, the longest of them; an end of -1, if there is none.
func (a table) firstFrom(from int) (start, end int) {
	for i := from; i < len(a); i++ {
		if a[i] != 0 {
			return i, a.longestAt(i)
		}
	}
	return 0, -1
}

// allOf tells all matches: where one was found, what follows is looked for from its end on, and must not be empty there.
func (a table) allOf() []api.Span {
	var all []api.Span
	taken := -1
	for at := 0; at < len(a); {
		start, end := a.firstFrom(at)
		if end < 0 {
			break
		}
		if start == taken && end == taken {
			at++
			continue
		}
		all = append(all, api.Span{Start: start, End: end})
		at, taken = end, end
	}
	return all
}

// check holds all calls, at all places, against the second reading.
func check(t *testing.T, one tried, subjects []string) {
	t.Helper()
	for _, s := range subjects {
		what := tableOf(one.tree, s)
		for at := range len(s) + 1 {
			wantLongest(t, one, s, at, what.longestAt(at))
			start, end := what.firstFrom(at)
			wantSearch(t, one, s, at, start, end)
		}
		wantAll(t, one, s, what.allOf()...)
	}
}

// counted tells, by sets of the automaton's states, how many are reached from a place on, in all: with matches that begin at each place, or at the first alone.
func counted(n *nfa.Nfa, s string, from int, each bool) int {
	g := (*automaton.Graph)(n)
	now, next := g.NewSet(), g.NewSet()
	all := 0
	for at := from; at <= len(s); at++ {
		place := automaton.PlaceOf(at, len(s))
		if at > from {
			next.Follow(now, s[at-1], place)
			now, next = next, now
		}
		if at == from || each {
			now.Enter(place)
		}
		all += now.Len()
	}
	return all
}
