package nfa_test

import (
	"math/big"
	"slices"
	"testing"

	"pidgin/api"
)

// The second reading is a table of what matches from where to where, made of the tree part by part, as the section 'Words' says; no states.

// table tells of each place i of a subject, as bits, the places j to which a part matches from i.
type table []uint64

// mostOfTable is the length of the longest subject for which there are bits enough.
const mostOfTable = 63

// tableOf tells what a part matches in a subject.
func tableOf(re api.Re, s string) table {
	all := make(table, len(s)+1)
	switch re.Kind {
	case api.ReSet:
		for i := range len(s) {
			all[i] = re.Set[s[i]/64] >> (s[i] % 64) & 1 << (i + 1)
		}
	case api.ReBegin:
		all[0] = 1
	case api.ReEnd:
		all[len(s)] = 1 << len(s)
	case api.ReCat:
		all = standing(s)
		for _, kid := range re.Kids {
			all = all.then(tableOf(kid, s))
		}
	case api.ReAlt:
		for _, kid := range re.Kids {
			all = all.or(tableOf(kid, s))
		}
	case api.ReRep:
		all = repeated(tableOf(re.Kids[0], s), re.Min, re.Max, s)
	case api.ReGroup:
		all = tableOf(re.Kids[0], s)
	}
	return all
}

// standing matches nothing but what is empty.
func standing(s string) table {
	all := make(table, len(s)+1)
	for i := range all {
		all[i] = 1 << i
	}
	return all
}

// then matches one behind the other.
func (a table) then(b table) table {
	all := make(table, len(a))
	for i, ends := range a {
		for k := range b {
			if ends>>k&1 == 1 {
				all[i] |= b[k]
			}
		}
	}
	return all
}

// or matches what one of the two does.
func (a table) or(b table) table {
	all := make(table, len(a))
	for i := range a {
		all[i] = a[i] | b[i]
	}
	return all
}

// repeated matches any number of times from least to most; without end, if most is -1.
func repeated(kid table, least, most int, s string) table {
	times := standing(s)
	for range least {
		times = times.then(kid)
	}
	all := times
	for count := least; count != most; count++ {
		times = times.then(kid)
		more := all.or(times)
		if slices.Equal(more, all) { // from here on nothing comes that is not there
			break
		}
		all = more
	}
	return all
}

// matches tells whether a part matches the whole subject.
func matches(re api.Re, s string) bool {
	return tableOf(re, s)[0]>>len(s)&1 == 1
}

// secondWeight tells a part's weight, however great.
func secondWeight(re api.Re) *big.Int {
	sum := new(big.Int)
	for _, kid := range re.Kids {
		sum.Add(sum, secondWeight(kid))
	}
	switch re.Kind {
	case api.ReSet, api.ReBegin, api.ReEnd:
		return big.NewInt(1)
	case api.ReAlt:
		return sum.Add(sum, big.NewInt(int64(len(re.Kids)-1)))
	case api.ReRep:
		if re.Max == -1 {
			sum.Mul(sum, big.NewInt(int64(re.Min+1)))
			return sum.Add(sum, big.NewInt(1))
		}
		sum.Mul(sum, big.NewInt(int64(re.Max)))
		return sum.Add(sum, big.NewInt(int64(re.Max-re.Min)))
	}
	return sum
}

// secondWhole tells the weight of the whole as Weight tells it.
func secondWhole(re api.Re) int {
	sum := secondWeight(re)
	sum.Add(sum, big.NewInt(1))
	if sum.Cmp(big.NewInt(4001)) > 0 {
		return 4001
	}
	return int(sum.Int64())
}

// check holds Weight, Build, States and Accepts of an expression against the second reading.
func check(t *testing.T, text string, ext bool, subjects []string) {
	t.Helper()
	tree := parse(t, text, ext).Tree()
	weight := secondWhole(tree)
	wantWeight(t, text, ext, weight)
	if weight > 4000 {
		wantRefused(t, text, ext)
		return
	}
	wantJust(t, text, ext, subjects, func(s string) bool { return matches(tree, s) })
}
