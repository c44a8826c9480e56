package nfa_test

import (
	"math/rand"
	"strings"
	"testing"

	"pidgin/api"
	"pidgin/nfa"
	"pidgin/retext"
)

// The tests of this file hold all short expressions, and many long ones, against the second reading and against one another.

// TestP9_3All: all short rows of what stands in extended expressions.
func TestP9_3All(t *testing.T) {
	t.Parallel()
	subjects := subjectsOf("ab", 4)
	for _, text := range accepted([]string{"a", "b", "(", ")", "|", "*", "+", "{2}", "{0}", "{0,1}", "{1,2}", "^", "$", "."}, 4) {
		check(t, text, extended, subjects)
	}
	for _, text := range accepted([]string{"a", "b*", "(", ")", "|", "*", "^", "$"}, 6) {
		check(t, text, extended, subjects[:15])
	}
}

// TestP9_3AllBasic: all short rows of what stands in basic expressions.
func TestP9_3AllBasic(t *testing.T) {
	t.Parallel()
	subjects := append(subjectsOf("ab", 4), "*", "^", "$", "a*", "a^", "$b", "a^$b", "*a", "**")
	rows([]string{"a", "b", `\(`, `\)`, "*", `\{2\}`, `\{1,\}`, `\{0\}`, `\{0,1\}`, "^", "$", "."}, 4, func(text string) {
		if _, err := retext.Parse([]byte(text), basic); err == nil {
			check(t, text, basic, subjects)
		}
	})
}

// TestP9_3AllMade: expressions made at random.
func TestP9_3AllMade(t *testing.T) {
	t.Parallel()
	subjects := append(subjectsOf("ab", 4), "c", "ac", "cab", "abcab", "aaaaaaaa", "abababab", "bbbbbbbbbbbb", "aabbaabbaabb", "ccccc", "\n", "a\nb")
	for seed := range int64(4000) {
		m := &maker{Rand: rand.New(rand.NewSource(seed))}
		if text := m.text(3); len(text) <= api.MaxRe {
			check(t, text, extended, subjects)
		}
	}
}

// TestP9_1AllMade: weights of expressions made at random, with great numbers.
func TestP9_1AllMade(t *testing.T) {
	t.Parallel()
	heavy := 0
	for seed := range int64(20000) {
		m := &maker{Rand: rand.New(rand.NewSource(seed))}
		text := m.text(3)
		great := strings.NewReplacer("{2}", "{30}", "{3}", m.one("{255}", "{100}"), "{2,4}", "{2,64}", "{3,}", "{200,}", "{0,3}", "{0,250}").Replace(text)
		if len(great) > api.MaxRe {
			continue
		}
		tree := parse(t, great, extended).Tree()
		want := secondWhole(tree)
		wantWeight(t, great, extended, want)
		if want > 4000 {
			heavy++
			wantRefused(t, great, extended)
			continue
		}
		build(t, great, extended)
	}
	if heavy < 1000 {
		t.Error("too few that are too heavy:", heavy)
	}
}

// shortOnes tells short expressions of all kinds.
func shortOnes() []string {
	return append(accepted([]string{"a", "b", "|", "*", "?", "{0}", "^", "$"}, 3), "a{2,3}", "(a|b)*", "a*b*", "(ab)+", "[^a]*b", "(^a|b$)*")
}

// TestP9_4Group: a group weighs and accepts what its text does.
func TestP9_4Group(t *testing.T) {
	t.Parallel()
	subjects := subjectsOf("ab", 4)
	for _, text := range shortOnes() {
		for _, grouped := range []string{"(" + text + ")", "((" + text + "))", "(((" + text + ")))"} {
			wantWeight(t, grouped, extended, nfa.Weight(parse(t, text, extended)))
			wantSame(t, grouped, text, subjects)
		}
	}
	wantWeight(t, "(a{255}{255})", extended, 4001)
}

// wantSame: two extended expressions accept the same subjects.
func wantSame(t *testing.T, one, other string, subjects []string) {
	t.Helper()
	n := build(t, other, extended)
	wantJust(t, one, extended, subjects, func(s string) bool { return n.Accepts([]byte(s)) })
}

// TestP9_4Times: times written out.
func TestP9_4Times(t *testing.T) {
	t.Parallel()
	subjects := subjectsOf("ab", 4)
	for _, text := range shortOnes() {
		a := "(" + text + ")"
		for times, written := range map[string]string{"{0}": a + "{0,0}", "{1}": a, "{2}": a + a, "{3}": a + a + a, "+": a + a + "*", "{1,}": a + a + "*", "{2,}": a + a + a + "*", "*": a + "{0,}", "{0,1}": a + "?", "{1,2}": a + a + "?", "{0,2}": "(" + a + a + "?)?", "{2,3}": a + a + a + "?", "?": a + "|" + a + "{0}"} {
			wantSame(t, a+times, written, subjects)
		}
	}
}

// TestP9_4Either: what one of two accepts, and nothing else.
func TestP9_4Either(t *testing.T) {
	t.Parallel()
	subjects := subjectsOf("ab", 4)
	all := shortOnes()
	for i, a := range all {
		for k := i % 7; k < len(all); k += 7 { // not each with each: that takes too long
			b := all[k]
			first, second := build(t, a, extended), build(t, b, extended)
			either := func(s string) bool { return first.Accepts([]byte(s)) || second.Accepts([]byte(s)) }
			wantJust(t, "("+a+")|("+b+")", extended, subjects, either)
			wantJust(t, a+"|"+b, extended, subjects, either)
		}
	}
}

// TestP9_4Row: what can be cut in two, if there is no ^ and no $.
func TestP9_4Row(t *testing.T) {
	t.Parallel()
	subjects := subjectsOf("ab", 4)
	var all []string
	for _, text := range shortOnes() {
		if !strings.ContainsAny(text, "^$") {
			all = append(all, text)
		}
	}
	for _, a := range all {
		for _, b := range all {
			first, second := build(t, a, extended), build(t, b, extended)
			wantJust(t, "("+a+")("+b+")", extended, subjects, func(s string) bool {
				for i := range len(s) + 1 {
					if first.Accepts([]byte(s[:i])) && second.Accepts([]byte(s[i:])) {
						return true
					}
				}
				return false
			})
		}
	}
}

// TestP9_5: a tree that both grammars have weighs and accepts the same.
func TestP9_5(t *testing.T) {
	t.Parallel()
	subjects := append(subjectsOf("ab", 4), "c", "abcab", "aaaaaaaa", "abababab", "aabbaabbaabb")
	for seed := range int64(2000) {
		m := &maker{Rand: rand.New(rand.NewSource(seed)), both: true}
		text := m.text(3)
		if len(inBasic(text)) <= api.MaxRe {
			wantBoth(t, text, inBasic(text), subjects)
		}
	}
	for one, other := range map[string]string{"a+": `a\{1,\}`, "a?b": `a\{0,1\}b`, "(a+)?": `\(a\{1,\}\)\{0,1\}`, "^a$": "^a$", "(^a$)": `\(^a$\)`, `\(\|\)`: "(|)", "[.]*": "[.]*", "(^ab*$){2}": `\(^ab*$\)\{2\}`} {
		wantBoth(t, one, other, subjects)
	}
}

// wantBoth: an extended text and a basic one have the same tree, the same weight, and accept the same.
func wantBoth(t *testing.T, text, inBasic string, subjects []string) {
	t.Helper()
	first, second := parse(t, text, extended), parse(t, inBasic, basic)
	if first.Text() != second.Text() {
		t.Fatalf("%q and %q are not one tree: %s, %s", text, inBasic, first.Text(), second.Text())
	}
	want := secondWhole(first.Tree())
	wantWeight(t, text, extended, want)
	wantWeight(t, inBasic, basic, want)
	if want > 4000 {
		wantRefused(t, text, extended)
		wantRefused(t, inBasic, basic)
		return
	}
	n := build(t, text, extended)
	wantJust(t, inBasic, basic, subjects, func(s string) bool { return n.Accepts([]byte(s)) })
}
