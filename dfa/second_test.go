package dfa_test

import (
	"math/bits"
	"slices"
	"testing"

	"pidgin/api"
)

// The second reading is a table of what matches from where to where, made of the tree part by part, as nfa's section 'Words' says; no states.

// table tells of each place i of a subject of up to 63 bytes, as bits, the places j to which a part matches from i.
type table []uint64

// tableOf tells what a part matches in a subject.
func tableOf(re api.Re, s string) table {
	all := make(table, len(s)+1)
	switch re.Kind {
	case api.ReSet:
		for i := range len(s) {
			all[i] = re.Set[s[i]/64] >> (s[i] % 64) & 1 << (i + 1)
		}
	case api.ReBegin:
		all[0] = 1
	case api.ReEnd:
		all[len(s)] = 1 << len(s)
	case api.ReCat:
		all = standing(s)
		for _, kid := range re.Kids {
			all = all.then(tableOf(kid, s))
		}
	case api.ReAlt:
		for _, kid := range re.Kids {
			all = all.or(tableOf(kid, s))
		}
	case api.ReRep:
		all = repeated(tableOf(re.Kids[0], s), re.Min, re.Max, s)
	case api.ReGroup:
		all = tableOf(re.Kids[0], s)
	}
	return all
}

// standing matches nothing but what is empty.
func standing(s string) table {
	all := make(table, len(s)+1)
	for i := range all {
		all[i] = 1 << i
	}
	return all
}

// then matches one behind the other.
func (a table) then(b table) table {
	all := make(table, len(a))
	for i, ends := range a {
		for k := range b {
			if ends>>k&1 == 1 {
				all[i] |= b[k]
			}
		}
	}
	return all
}

// or matches what one of the two does.
func (a table) or(b table) table {
	all := make(table, len(a))
	for i := range a {
		all[i] = a[i] | b[i]
	}
	return all
}

// repeated matches any number of times from least to most; without end, if most is -1.
func repeated(kid table, least, most int, s string) table {
	times := standing(s)
	for range least {
		times = times.then(kid)
	}
	all := times
	for count := least; count != most; count++ {
		times = times.then(kid)
		more := all.or(times)
		if slices.Equal(more, all) { // from here on nothing comes that is not there
			break
		}
		all = more
	}
	return all
}

// longestAt tells where the longest match from a place ends; -1, if there is none.
func (a table) longestAt(at int) int {
	return 63 - bits.LeadingZeros64(a[at])
}

// anyFrom tells whether there is a match from a place on.
func (a table) anyFrom(from int) bool {
	return slices.ContainsFunc(a[from:], func(ends uint64) bool { return ends != 0 })
}

// check holds both calls, at all places, against the second reading.
func check(t *testing.T, one tried, subjects []string) {
	t.Helper()
	for _, s := range subjects {
		what := tableOf(one.tree, s)
		for at := range len(s) + 1 {
			wantLongest(t, one, s, at, what.longestAt(at))
			wantAny(t, one, s, at, what.anyFrom(at))
		}
	}
}
