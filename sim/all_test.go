package sim_test

import (
	"strings"
	"testing"

	"pidgin/api"
	"pidgin/sim"
)

// The tests of this file hold all short expressions, and many long ones, against the second reading and against one another.

// TestP10_1All: all short rows of what stands in extended expressions.
func TestP10_1All(t *testing.T) {
	t.Parallel()
	subjects := subjectsOf("ab", 4)
	for _, text := range accepted([]string{"a", "b", "(", ")", "|", "*", "{2}", "{0}", "^", "$"}, 4, extended) {
		check(t, try(t, text, extended), subjects)
	}
	for _, text := range accepted([]string{"a", "b", ".", "ab", "|", "+", "?", "{1,2}"}, 4, extended) {
		check(t, try(t, text, extended), subjects)
	}
	for _, text := range accepted([]string{"a", "b*", "(", ")", "|", "*", "^", "$"}, 6, extended) {
		check(t, try(t, text, extended), []string{"", "ab", "abba", "bab"})
	}
}

// TestP10_1AllBasic: all short rows of what stands in basic expressions.
func TestP10_1AllBasic(t *testing.T) {
	t.Parallel()
	subjects := append(subjectsOf("ab", 3), "aabb", "baab", "*", "^a", "a$b", "*a*")
	for _, text := range accepted([]string{"a", "b", `\(`, `\)`, "*", `\{2\}`, `\{0,1\}`, "^", "$"}, 4, basic) {
		check(t, try(t, text, basic), subjects)
	}
}

// TestP10_1AllMade: expressions made at random, and longer subjects.
func TestP10_1AllMade(t *testing.T) {
	t.Parallel()
	subjects := append(subjectsOf("ab", 3), "c", "cab", "abcab", "aaaaaaaa", "abababab", "bbbbcbbbb", "aabbaabbcaabb", "a\nb")
	for _, one := range made(t, 3000, false) {
		check(t, one, subjects)
	}
	for _, one := range made(t, 200, true) {
		check(t, one, []string{strings.Repeat("aabcb", 12), strings.Repeat("a", 63), strings.Repeat("b", 31) + "c" + strings.Repeat("ab", 15)})
	}
}

// TestP10_1Grammars: a tree that both grammars have finds the same.
func TestP10_1Grammars(t *testing.T) {
	for _, text := range []string{"a*b", "(ab)*", "a{2,3}", "(a{1,2}b){2,}", "^a.b$", "(^a)*b", "[ab]{2}", "(a*)*"} {
		one, other := try(t, text, extended), try(t, inBasic(text), basic)
		for _, s := range subjectsOf("ab", 5) {
			check(t, one, []string{s})
			check(t, other, []string{s})
		}
	}
}

// TestP10_6: what Search tells is what Longest tells at the first place where it is Ok.
func TestP10_6(t *testing.T) {
	t.Parallel()
	for _, one := range made(t, 500, false) {
		for _, s := range append(subjectsOf("abc", 3), strings.Repeat("abcab", 20)) {
			b := []byte(s)
			next := api.Hit{} // the first from a place on, made from the end on
			for from := len(s); from >= 0; from-- {
				if here := sim.Longest(one.n, b, from); here.Ok {
					next = here
				}
				wantSearch(t, one, s, from, next.Span.Start, endOf(next))
			}
		}
	}
}

// endOf tells where a hit ends; -1, if it is none.
func endOf(hit api.Hit) int {
	if !hit.Ok {
		return -1
	}
	return hit.Span.End
}

// TestP10_6All: spans rise, do not overlap, and are empty only where none ends; each is the first that may be, and nothing more is left behind the last.
func TestP10_6All(t *testing.T) {
	t.Parallel()
	for _, one := range made(t, 500, false) {
		for _, s := range append(subjectsOf("abc", 3), strings.Repeat("abcab", 20)) {
			last := -1
			for _, span := range sim.All(one.n, []byte(s)) {
				if span.Start < last || span.End < span.Start || span.End > len(s) || span.Start == last && span.End == last {
					t.Fatalf("All(%q, %q): %v behind one that ends at %d", one.text, s, span, last)
				}
				wantNext(t, one, s, last, span, true)
				last = span.End
			}
			wantNext(t, one, s, last, api.Span{}, false)
		}
	}
}

// wantNext: behind a match that ends at last (-1: none) comes that one, or none.
func wantNext(t *testing.T, one tried, s string, last int, span api.Span, ok bool) {
	t.Helper()
	hit := sim.Search(one.n, []byte(s), max(last, 0))
	if hit.Ok && hit.Span == (api.Span{Start: last, End: last}) {
		hit = sim.Search(one.n, []byte(s), last+1)
	}
	if hit.Ok != ok || hit.Span != span {
		t.Fatalf("%q, %q: behind %d comes %v, All tells %v, %v", one.text, s, last, hit, ok, span)
	}
}

// TestP10_7: bytes behind the subject make no longest match shorter, if there is no $; bytes ahead of it move each, if there is no ^, either.
func TestP10_7(t *testing.T) {
	t.Parallel()
	behind, moved := 0, 0
	for _, one := range append(made(t, 400, false), made(t, 400, true)...) {
		if parted(one.text, "$") {
			continue
		}
		for _, s := range subjectsOf("abc", 3) {
			for _, more := range []string{"a", "b", "ca", "abab", "\n"} {
				for at := range len(s) + 1 {
					here := sim.Longest(one.n, []byte(s), at)
					if longer := sim.Longest(one.n, []byte(s+more), at); endOf(longer) < endOf(here) {
						t.Fatalf("Longest(%q, %q, %d): %v, with %q behind it %v", one.text, s, at, here, more, longer)
					}
					behind++
					if parted(one.text, "^") {
						continue
					}
					far := len(more) + endOf(here)
					if !here.Ok {
						far = -1
					}
					wantLongest(t, one, more+s, len(more)+at, far)
					moved++
				}
			}
		}
	}
	if behind < 100000 || moved < 100000 {
		t.Errorf("too few were tried: %d, %d", behind, moved)
	}
}
