package subst_test

import (
	"math/rand"
	"slices"
	"strings"
	"testing"

	"pidgin/api"
	"pidgin/fault"
	"pidgin/nfa"
	"pidgin/retext"
	"pidgin/sim"
	"pidgin/subst"
)

// checkTemplate holds what is read of a text, and made of a match, against the second reading.
func checkTemplate(t *testing.T, text string, groups int) {
	t.Helper()
	made, err := subst.Parse([]byte(text), groups)
	words, why := wordsOf(text, groups)
	if fault.Tell(err) != why || (made == nil) != (err != nil) {
		t.Fatalf("Parse(%q, %d): %s, want %s", text, groups, faultText(err), fault.Text(why))
	}
	if made == nil {
		return
	}
	if got := made.Text(); got != textOf(words) {
		t.Fatalf("Parse(%q, %d): %s, want %s", text, groups, got, textOf(words))
	}
	for _, spans := range [][]api.Span{nil, {{Start: 1, End: 3}}, {{Start: 0, End: 4}, {Start: 0, End: 2}, missing, {Start: 3, End: 5}, {Start: 2, End: 2}}} {
		if got, want := string(made.Apply([]byte("wxyz"), spans)), applied(words, "wxyz", spans); got != want {
			t.Fatalf("%q, %v: %q, want %q", text, spans, got, want)
		}
	}
}

// TestP13_1All: all short texts of the bytes that have a meaning, and of some that have none.
func TestP13_1All(t *testing.T) {
	t.Parallel()
	for groups := range 4 {
		rows(strings.Split(`&\0123na`, ""), 5, func(text string) { checkTemplate(t, text, groups) })
		rows([]string{"&", `\`, "2", "n", "\n", "9", "\xff"}, 4, func(text string) { checkTemplate(t, text, groups) })
	}
}

// TestP13_1AllLong: longer rows, made at random.
func TestP13_1AllLong(t *testing.T) {
	t.Parallel()
	tokens := []string{"&", `\&`, `\\`, `\n`, `\0`, `\1`, `\3`, `\4`, `\9`, "a", "bc", "\n", "\x00", "\xff", "1", `"`, " "}
	r := rand.New(rand.NewSource(13))
	for seed := range 20000 {
		text := ""
		for range r.Intn(30) {
			text += tokens[r.Intn(len(tokens))]
		}
		if seed%50 == 0 {
			text += `\`
		}
		checkTemplate(t, text, 9-seed%10)
	}
}

// templates tells the templates that expressions are tried with.
func templates(groups int) []string {
	switch groups {
	case 0:
		return []string{"", `[&]\n`}
	case 1:
		return []string{"x", `[\1&]`}
	}
	return []string{"&", `<\2\1>`}
}

// check holds what is found and replaced in subjects against the second reading.
func check(t *testing.T, r *retext.Re, subjects []string) {
	t.Helper()
	for _, s := range subjects {
		matches := matchesIn(r, s)
		wantMatches(t, r, s, matches)
		for _, text := range templates(r.Groups()) {
			words, _ := wordsOf(text, r.Groups())
			made := parse(t, text, r.Groups())
			for nth := range len(matches) + 2 {
				for _, all := range []bool{false, true} {
					want, count, why := replacedIn(matches, words, s, nth, all)
					if why != (api.Fault{}) {
						wantNot(t, r, made, s, nth, all, why)
						continue
					}
					wantReplaced(t, r, made, s, nth, all, want, count)
				}
			}
		}
	}
}

// TestP13_5All: all short rows of what stands in expressions.
func TestP13_5All(t *testing.T) {
	t.Parallel()
	subjects := append(subjectsOf("ab", 2), "aab", "aba", "bab", "baab")
	for _, r := range accepted([]string{"a", "b", "*", "(", ")", "|", "^", "$"}, 4, extended) {
		check(t, r, subjects)
	}
	for _, r := range accepted([]string{"a", "(a)", "b*", "(a*)", "|", "+", "{2}", "{0}"}, 3, extended) {
		check(t, r, subjects)
	}
	for _, r := range accepted([]string{"a", "*", `\(b\)`, "^", "$", `\{0,1\}`, `\(`, `\)`}, 4, basic) {
		check(t, r, append(subjects, "^*a$", "a$b"))
	}
}

// TestP13_5AllMade: expressions made at random, and longer subjects.
func TestP13_5AllMade(t *testing.T) {
	t.Parallel()
	for _, r := range made(t, 150, false) {
		check(t, r, append(subjectsOf("ab", 2), "abcab", "ccaabcb", "a\nb", "bbaba"))
	}
	for _, r := range made(t, 20, true) {
		check(t, r, []string{strings.Repeat("aabcb", 5), strings.Repeat("ab", 12), strings.Repeat("c", 20)})
	}
}

// TestP13_4All: the matches are those that sim.All tells.
func TestP13_4All(t *testing.T) {
	t.Parallel()
	for _, r := range made(t, 300, false) {
		n, err := nfa.Build(r)
		if err != nil {
			t.Fatal(r.Text(), faultText(err))
		}
		for _, s := range []string{"", "b", strings.Repeat("abcab", 40), strings.Repeat("a", 150) + "b" + strings.Repeat("a", 20), strings.Repeat("ba", 70) + "c"} {
			got, err := subst.Matches(r, []byte(s))
			want := sim.All(n, []byte(s))
			if err != nil || !slices.EqualFunc(got, want, func(spans []api.Span, one api.Span) bool { return spans[0] == one }) {
				t.Fatalf("%s, %q: %v, %s, want %v", r.Text(), s, got, faultText(err), want)
			}
		}
	}
}

// TestP13_6: with the template & nothing changes, and as many are replaced as there are matches; what is in no match stays, in order.
func TestP13_6(t *testing.T) {
	t.Parallel()
	same, cut := parse(t, "&", 0), parse(t, "", 0)
	for _, r := range append(made(t, 250, false), made(t, 60, true)...) {
		for _, s := range append(subjectsOf("ab", 2), "cabacbb", strings.Repeat("abc", 7)) {
			matches, err := subst.Matches(r, []byte(s))
			if err != nil {
				t.Fatal(r.Text(), faultText(err))
			}
			wantReplaced(t, r, same, s, 1, true, s, len(matches))
			rest, from := "", 0
			for number, spans := range matches {
				rest += s[from:spans[0].Start]
				from = spans[0].End
				wantReplaced(t, r, same, s, number+1, false, s, 1)
				wantReplaced(t, r, same, s, number+1, true, s, len(matches)-number)
			}
			wantReplaced(t, r, cut, s, 1, true, rest+s[from:], len(matches))
		}
	}
}

// TestP13_7: replacing the first, then all in what stands behind it, is replacing all.
func TestP13_7(t *testing.T) {
	t.Parallel()
	tries := 0
	for _, r := range made(t, 500, true) {
		text := `[&\0]`
		if r.Groups() > 0 {
			text += `\1`
		}
		template := parse(t, text, r.Groups())
		for _, s := range append(subjectsOf("abc", 2), "ccabbabcc", "aabbaabba", "bcbcaaab") {
			matches, _ := subst.Matches(r, []byte(s))
			if len(matches) == 0 || matches[0][0].Start == matches[0][0].End {
				continue
			}
			end := matches[0][0].End
			behind, err := subst.Matches(r, []byte(s[end:]))
			if err != nil || len(behind) > 0 && behind[0][0] == (api.Span{}) {
				continue
			}
			tries++
			first := s[:matches[0][0].Start] + string(template.Apply([]byte(s), matches[0]))
			wantReplaced(t, r, template, s, 1, false, first+s[end:], 1)
			rest, count, _ := subst.Replace(r, template, []byte(s[end:]), 1, true)
			wantReplaced(t, r, template, s, 1, true, first+string(rest), 1+count)
		}
	}
	if tries < 1500 {
		t.Error("too few were tried:", tries)
	}
}
