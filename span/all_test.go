package span_test

import (
	"slices"
	"strings"
	"testing"

	"pidgin/api"
	"pidgin/retext"
	"pidgin/span"
)

// check holds both calls, at all places, against the second reading.
func check(t *testing.T, one tried, subjects []string) {
	t.Helper()
	for _, s := range subjects {
		whole := nodeOf(one.tree, s)
		groups := one.r.Groups()
		for i := range len(s) + 1 {
			for j := i; j <= len(s); j++ {
				var want []api.Span
				if whole.what.has(i, j) {
					want = whole.spansOf(groups, i, j)
				}
				wantParse(t, one, s, i, j, want)
			}
			var want []api.Span
			if start, end := whole.firstFrom(i); end >= 0 {
				want = whole.spansOf(groups, start, end)
			}
			wantFind(t, one, s, i, want)
		}
	}
}

// TestP11_2All: all short rows of what stands in extended expressions.
func TestP11_2All(t *testing.T) {
	t.Parallel()
	subjects := subjectsOf("ab", 3)
	for _, text := range accepted([]string{"(a)", "(b)", "(", ")", "|", "*", "a"}, 5, extended) {
		check(t, try(t, text, extended), subjects)
	}
	for _, text := range accepted([]string{"(", ")", "(a*)", "{2}", "{0,2}", "{2,}", "^", "|", "b"}, 4, extended) {
		check(t, try(t, text, extended), subjects)
	}
	for _, text := range accepted([]string{"(a|^)", "(a|$)", "(b|ab)", "(.)", "+", "?", "{3}", "{1,3}", "{3,}"}, 3, extended) {
		check(t, try(t, text, extended), subjects)
	}
}

// TestP11_2AllBasic: all short rows of what stands in basic expressions.
func TestP11_2AllBasic(t *testing.T) {
	t.Parallel()
	subjects := append(subjectsOf("ab", 3), "aabb", "*", "^a", "a$b", "*a*")
	for _, text := range accepted([]string{`\(a\)`, "b", `\(`, `\)`, "*", `\{2\}`, `\{0,1\}`, "^", "$"}, 4, basic) {
		check(t, try(t, text, basic), subjects)
	}
}

// TestP11_2AllMade: expressions made at random, and longer subjects.
func TestP11_2AllMade(t *testing.T) {
	t.Parallel()
	subjects := append(subjectsOf("ab", 3), "c", "cab", "abcab", "aaaaaa", "bbcbb", "a\nb")
	for _, one := range made(t, 900, false) {
		check(t, one, subjects)
	}
	for _, one := range made(t, 300, true) {
		check(t, one, []string{"aabbaabb", "abababab", "aaaaaaaaa"})
	}
	for _, one := range made(t, 40, true) {
		check(t, one, []string{strings.Repeat("aabcb", 5), strings.Repeat("ab", 12)})
	}
}

// TestP11_2Branches: branches of many kinds.
func TestP11_2Branches(t *testing.T) {
	t.Parallel()
	subjects := subjectsOf("ab", 3)
	parts := []string{"a", "(a)", "b*", "(b)*", "(a*)b", "((a)|b)*", "(a|(ab))", "(x)*", "(^|a)", "(a|$){2}"}
	for _, one := range parts {
		for _, two := range parts {
			for _, three := range parts {
				check(t, try(t, one+"|"+two+"|"+three, extended), subjects)
			}
			check(t, try(t, "("+one+"|"+two+")*", extended), subjects)
			check(t, try(t, "("+one+"|"+two+"){2,3}", extended), subjects)
			check(t, try(t, "("+one+"|"+two+"){2,}(a*)", extended), subjects)
		}
	}
}

// TestP11_2Grammars: a tree that both grammars have is parsed the same.
func TestP11_2Grammars(t *testing.T) {
	for _, text := range []string{"(a*)b", "(ab)*", "(a{2,3})*", "((a){1,2}b){2,}", "^(a).(b)$", "(^a)*b", "([ab]){2}", "((a)*)*"} {
		for _, s := range subjectsOf("ab", 5) {
			check(t, try(t, text, extended), []string{s})
			check(t, try(t, inBasic(text), basic), []string{s})
		}
	}
}

// within tells whether a span lies in another.
func within(one, other api.Span) bool {
	return other.Start <= one.Start && one.Start <= one.End && one.End <= other.End
}

// TestP11_3: what has a span lies within the match, and within the group around it, where no repetition is between.
func TestP11_3(t *testing.T) {
	t.Parallel()
	inner := 0
	for _, one := range made(t, 1500, false) {
		for _, s := range subjectsOf("ab", 4) {
			spans, ok, _ := span.Find(one.r, []byte(s), 0)
			if !ok {
				continue
			}
			for group, around := range groupsOf(one.tree, 0, false, false) {
				switch here := spans[group]; {
				case around.sure && here == missing:
					t.Fatalf("%q, %q: group %d has no span in %v", one.text, s, group, spans)
				case here == missing || spans[around.group] == missing || around.times:
					continue
				case !within(here, spans[around.group]) || !within(here, spans[0]):
					t.Fatalf("%q, %q: group %d is not within %d in %v", one.text, s, group, around.group, spans)
				}
				inner++
			}
		}
	}
	if inner < 1000 {
		t.Error("too few were tried:", inner)
	}
}

// around is what a group stands in.
type around struct {
	group int  // 0: the whole
	times bool // with a repetition between
	sure  bool // it stands in the whole without a repetition or a branch around it
}

// groupsOf tells what each group of a part stands in: the part stands in the group outer, with or without a repetition between; and maybe it is not gone through.
func groupsOf(re api.Re, outer int, times, maybe bool) map[int]around {
	all := map[int]around{}
	switch re.Kind {
	case api.ReGroup:
		all[re.Group] = around{group: outer, times: times, sure: !maybe}
		outer, times = re.Group, false
	case api.ReRep:
		times, maybe = true, true
	case api.ReAlt:
		maybe = true
	}
	for _, kid := range re.Kids {
		for group, one := range groupsOf(kid, outer, times, maybe) {
			all[group] = one
		}
	}
	return all
}

// TestP11_4: a group around the whole has the match's span; the others are as they were.
func TestP11_4(t *testing.T) {
	t.Parallel()
	tries := 0
	for _, one := range append(made(t, 1000, false), made(t, 500, true)...) {
		if one.r.Groups() == api.MaxGroups || len(one.text) > api.MaxRe-2 {
			continue
		}
		tries++
		wrapped := try(t, "("+one.text+")", extended)
		for _, s := range append(subjectsOf("ab", 4), "cabac") {
			want, ok, _ := span.Find(one.r, []byte(s), 0)
			if ok {
				want = slices.Insert(want, 1, want[0])
			}
			wantFind(t, wrapped, s, 0, want)
		}
	}
	for _, text := range []string{"a", `\(a*\)b`, "^a$", `^*\(a\)*`, `\(a\)\{2\}\(b*\)`} {
		one, wrapped := try(t, text, basic), try(t, `\(`+text+`\)`, basic)
		for _, s := range append(subjectsOf("ab", 4), "*a") {
			want, ok, _ := span.Find(one.r, []byte(s), 0)
			if ok {
				want = slices.Insert(want, 1, want[0])
			}
			wantFind(t, wrapped, s, 0, want)
		}
	}
	if tries < 700 {
		t.Error("too few were tried:", tries)
	}
}

// TestP11_5: a match that does not begin earlier is found from a place on, too.
func TestP11_5(t *testing.T) {
	t.Parallel()
	for _, one := range made(t, 2000, false) {
		if strings.Contains(one.text, "^") {
			continue
		}
		for _, s := range append(subjectsOf("abc", 3), "ccccabab") {
			want, ok, _ := span.Find(one.r, []byte(s), 0)
			if !ok {
				continue
			}
			for from := range want[0].Start + 1 {
				wantFind(t, one, s, from, want)
			}
		}
	}
}

// TestP11_1Joined: two expressions that are accepted, one behind the other or as branches, are parsed as the second reading does.
func TestP11_1Joined(t *testing.T) {
	t.Parallel()
	all := made(t, 300, false)
	for at := range all[1:] {
		for _, between := range []string{"|", ""} {
			text := "(" + all[at].text + between + all[at+1].text + ")*"
			if r, err := retext.Parse([]byte(text), extended); err == nil && r.Groups() < 9 {
				check(t, try(t, text, extended), []string{"", "ab", "abab", "aabb", "bcab"})
			}
		}
	}
}
