package dfa_test

import (
	"slices"
	"strings"
	"testing"

	"pidgin/dfa"
	"pidgin/sim"
)

// The tests of this file hold all short expressions, and many long ones, against the second reading, against sim and against one another.

// TestP12_2All: all short rows of what stands in extended expressions.
func TestP12_2All(t *testing.T) {
	t.Parallel()
	subjects := append(subjectsOf("ab", 3), "abba", "bbaa", "aaaa")
	for _, text := range accepted([]string{"a", "b", "(", ")", "|", "*", "{2}", "{0}", "^", "$"}, 4, extended) {
		check(t, try(t, text, extended), subjects)
	}
	for _, text := range accepted([]string{"a", "b", ".", "ab", "|", "+", "?", "{1,2}"}, 4, extended) {
		check(t, try(t, text, extended), subjects)
	}
	for _, text := range accepted([]string{"a", "b*", "(", ")", "|", "*", "^", "$"}, 6, extended) {
		check(t, try(t, text, extended), []string{"", "ab", "abba", "bab"})
	}
}

// TestP12_2AllBasic: all short rows of what stands in basic expressions.
func TestP12_2AllBasic(t *testing.T) {
	t.Parallel()
	subjects := append(subjectsOf("ab", 3), "aabb", "baab", "*", "^a", "a$b", "*a*")
	for _, text := range accepted([]string{"a", "b", `\(`, `\)`, "*", `\{2\}`, `\{0,1\}`, "^", "$"}, 4, basic) {
		check(t, try(t, text, basic), subjects)
	}
}

// TestP12_2AllMade: expressions made at random, and longer subjects.
func TestP12_2AllMade(t *testing.T) {
	t.Parallel()
	subjects := append(subjectsOf("ab", 3), "c", "cab", "abcab", "aaaaaaaa", "abababab", "bbbbcbbbb", "aabbaabbcaabb", "a\nb")
	for _, one := range made(t, 2000) {
		check(t, one, subjects)
		check(t, one, subjects[:5]) // again, behind all else that was asked
	}
}

// TestP12_5All: matchers of all capacities tell what sim tells, on long subjects.
func TestP12_5All(t *testing.T) {
	t.Parallel()
	subjects := []string{strings.Repeat("aabcb", 40), strings.Repeat("a", 150), strings.Repeat("b", 31) + "c" + strings.Repeat("ab", 45), strings.Repeat("abbcabaacbbbca", 20)}
	for _, one := range made(t, 300) {
		for capacity := 2; capacity < 14; capacity++ {
			one.all = append(one.all, dfa.New(one.n, capacity))
		}
		for _, s := range subjects {
			for at := 0; at <= len(s); at += 1 + at/2 {
				agree(t, one, s, at)
			}
			agree(t, one, s, len(s))
		}
	}
}

// agree: what sim tells is what the matchers tell.
func agree(t *testing.T, one tried, s string, at int) {
	t.Helper()
	wantAny(t, one, s, at, sim.Any(one.n, []byte(s), at).Ok)
	end := -1
	if hit := sim.Longest(one.n, []byte(s), at); hit.Ok {
		end = hit.Span.End
	}
	wantLongest(t, one, s, at, end)
}

// TestP12_3Room: with room for the states that were reached, none is thrown out; with less, some are.
func TestP12_3Room(t *testing.T) {
	t.Parallel()
	calls := func(d *dfa.Dfa) {
		for _, s := range append(subjectsOf("ab", 3), strings.Repeat("abcab", 8), strings.Repeat("ba", 9)) {
			for at := range len(s) + 1 {
				d.Any([]byte(s), at)
				d.Longest([]byte(s), at)
			}
		}
	}
	tight := 0
	for _, one := range made(t, 500) {
		wide := dfa.New(one.n, 1024)
		calls(wide)
		need := wide.Held()
		if wide.Evicted() != 0 || need < 2 || need == 1024 {
			continue
		}
		just := dfa.New(one.n, need)
		calls(just)
		if just.Evicted() != 0 || just.Held() != need || just.Built() != wide.Built() {
			t.Errorf("%q, capacity %d: %d held, %d thrown out, %d built, with more room %d", one.text, need, just.Held(), just.Evicted(), just.Built(), wide.Built())
		}
		less := dfa.New(one.n, need-1)
		calls(less)
		if need == 2 {
			continue
		}
		tight++
		if less.Evicted() == 0 || less.Held() != need-1 || less.Most() != need-1 || less.Built() < wide.Built() {
			t.Errorf("%q, capacity %d of %d: %d held, %d at most, %d thrown out", one.text, need-1, need, less.Held(), less.Most(), less.Evicted())
		}
	}
	if tight < 200 {
		t.Error("too few were tried:", tight)
	}
}

// TestP12_5Grammars: a tree that both grammars have tells the same.
func TestP12_5Grammars(t *testing.T) {
	for _, text := range []string{"a*b", "(ab)*", "a{2,3}", "(a{1,2}b){2,}", "^a.b$", "(^a)*b", "[ab]{2}", "(a*)*"} {
		one, other := try(t, text, extended), try(t, inBasic(text), basic)
		one.all = slices.Concat(one.all, other.all)
		check(t, one, subjectsOf("ab", 5))
	}
}
