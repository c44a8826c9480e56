package sim_test

import (
	"math"
	"slices"
	"strings"
	"sync"
	"testing"

	"pidgin/api"
	"pidgin/nfa"
	"pidgin/sim"
)

// TestP10_1: the longest match from a place.
func TestP10_1(t *testing.T) {
	for text, want := range map[string]string{ // a subject, and where the longest match from each of its places ends; - where there is none
		"a": "aba 1 - 3 -", "a*": "baab 0 3 3 3 4", "a+": "baab - 3 3 - -", "a|ab": "aab 1 3 - -", "ab|a": "aab 1 3 - -", "a|ab|abc": "abcab 3 - - 5 - -", "(a|ab)(c|bcd)": "abcdac 4 - - - 6 - -", "a*ab": "aaab 4 4 4 - -", ".*a": "bab 2 2 - -", "[^a]*": "bbab 2 2 2 4 4", "(ab)*": "ababa 4 1 4 3 4 5",
		"a{2}": "aaa 2 3 - -", "a{2,3}": "aaaa 3 4 4 - -", "a{2,}": "aaaa 4 4 4 - -", "a{0}": "aa 0 1 2", "(ab?){2}": "abaa 3 - 4 - -",
		"^": "ab 0 - -", "$": "ab - - 2", "^a": "aa 1 - -", "^a*": "aa 2 - -", "a$": "aa - 2 -", "a*$": "aba - - 3 3", "^$": "a - -", "^a|b": "abab 1 2 - 4 -", "a|b$": "abab 1 - 3 4 -", "(^a|b)*": "abab 2 2 2 4 4", "(a|b$)*": "abab 1 1 4 4 4", "a^": "aa - - -", "$a": "aa - - -", "(a|^)b": "bab 1 3 - -", "a(b|$)": "aba 2 - 3 -",
		"(a*)*": "aab 2 2 2 3", "(a*)+": "aab 2 2 2 3", "(a|b*)*c": "abcb 3 3 3 - -", "(a*)*b": "aac - - - -",
	} {
		one, words := try(t, text, extended), strings.Fields(want)
		for at, word := range words[1:] {
			end := -1
			if word != "-" {
				end = numbersOf(word)[0]
			}
			wantLongest(t, one, words[0], at, end)
		}
		if len(words) != len(words[0])+2 {
			t.Errorf("%q: a place of %q lacks", text, words[0])
		}
	}
	for text, end := range map[string]int{"": -1, "a": -1, "b": 1, "ab": 2, "aab": 3, "aabaab": 3} {
		wantLongest(t, try(t, `a*b`, basic), text, 0, end)
	}
	for text, end := range map[string]int{"": 0, "a": 0, "ab": 2, "ababa": 4} {
		wantLongest(t, try(t, `\(ab\)*`, basic), text, 0, end)
	}
}

// TestP10_2: is there a match at all.
func TestP10_2(t *testing.T) {
	for text, want := range map[string]string{ // a subject, and from how many places on, counted from 0, there is a match
		"a": "bab 2", "ab": "abab 3", "a*": "bb 3", "a+": "bb 0", "c": "abab 0", "b$": "abab 4", "^a": "aa 1", "^": "aa 1", "$": "aa 3", "^$": "a 0", "a^b": "ab 0", "a$b": "ab 0", "a{2}": "aabaab 4", "(ab){2}": "ababab 3", "a|c": "bbabb 3", "a.*b": "aabab 4", "x*$": "ab 3", "(^|c)a": "acabca 5", "[^b]": "abba 4", "$^": "a 0",
	} {
		one, words := try(t, text, extended), strings.Fields(want)
		for from := range len(words[0]) + 1 {
			wantAny(t, one, words[0], from, from < numbersOf(words[1])[0])
		}
	}
	for _, text := range []string{"^", "$", "^$", "a*", "a{0}", "(a|b)*"} {
		wantAny(t, try(t, text, extended), "", 0, true)
	}
	for _, text := range []string{"a", "a+", "^a", ".", "[^a]"} {
		wantAny(t, try(t, text, extended), "", 0, false)
	}
	for _, text := range []string{"a*", "a", "ab", "^.*$", "(a|b)+"} { // a match there is, but no span is told
		if got := sim.Any(try(t, text, extended).n, []byte("xabx"), 0); !got.Ok || got.Span != (api.Span{}) {
			t.Errorf("Any(%q): %v", text, got)
		}
	}
}

// TestP10_3: the first match, and the longest there.
func TestP10_3(t *testing.T) {
	for _, want := range []struct {
		text, s          string
		from, start, end int
	}{
		{"a*b", "xaab", 0, 1, 4}, {"a*b", "xaab", 2, 2, 4}, {"a*b", "xaab", 4, 0, -1}, {"a", "bab", 0, 1, 2}, {"a", "bab", 2, 0, -1}, {"a*", "baa", 0, 0, 0}, {"a*", "baa", 1, 1, 3}, {"a*", "baa", 3, 3, 3}, {"a+", "baa", 0, 1, 3},
		{"ab|a", "xab", 0, 1, 3}, {"a|ab", "xab", 0, 1, 3}, {"b|abc", "xabc", 0, 1, 4}, {"b|abc", "xabd", 0, 2, 3}, {"bc|abd", "abcabd", 0, 1, 3}, {"c|bcd|abcde", "abcdx", 0, 1, 4}, {"c|bcd|abcde", "abcxx", 0, 2, 3}, {"c|bcd|abcde", "abcde", 0, 0, 5}, {"c|bcd|abcde", "abcde", 1, 1, 4}, {"b|ab*c", "abbbd", 0, 1, 2}, {"b|ab*c", "abbbc", 0, 0, 5}, {"b+|ab*c", "abbbd", 0, 1, 4}, {"b*c|a.*z", "abbcabbc", 0, 1, 4}, {"b|a.*z", "aab", 0, 2, 3}, {"b|a.*z", "aabxz", 0, 0, 5}, {"b|a.*z", "aabxzaz", 1, 1, 7}, {"b.*y|a.*z", "abxyz", 0, 0, 5}, {"b.*y|a.*z", "abxyy", 0, 1, 5},
		{"^a", "ba", 1, 0, -1}, {"^a", "aa", 0, 0, 1}, {"^a", "aa", 1, 0, -1}, {"^", "ab", 0, 0, 0}, {"^", "ab", 1, 0, -1}, {"^|b", "ab", 1, 1, 2}, {"^a|b", "ab", 0, 0, 1}, {"^b|c", "abc", 0, 2, 3}, {"$", "ab", 0, 2, 2}, {"$", "ab", 2, 2, 2}, {"a$", "aba", 0, 2, 3}, {"a*$", "abaa", 0, 2, 4}, {"a$|b", "aab", 0, 2, 3}, {"(^a|b)+", "aab", 1, 2, 3}, {"^$", "", 0, 0, 0}, {"^$", "a", 0, 0, -1}, {"a\nb", "a\nab\na\nb", 0, 5, 8}, {"^b", "a\nb", 0, 0, -1}, {"a$", "a\nb", 0, 0, -1},
		{"(ab|b)*c", "ababxbabc", 0, 5, 9}, {"a{2,3}", "abaaaa", 0, 2, 5}, {"(a|ba){2}", "xbaba", 0, 1, 5}, {"[bc]+", "abcba", 0, 1, 4}, {".", "\x00\xff", 1, 1, 2}, {"\xff", "\x00\xff", 0, 1, 2}, {"[\x80-\xff]+", "a\x80\xffb", 0, 1, 3},
	} {
		wantSearch(t, try(t, want.text, extended), want.s, want.from, want.start, want.end)
	}
	wantSearch(t, try(t, "^*a", basic), "*a", 0, 0, 2)
	wantSearch(t, try(t, "a|b", basic), "aba|b", 0, 2, 5)
}

// TestP10_3Begin: ^ is at the beginning of the subject alone, $ at its end, wherever the call begins.
func TestP10_3Begin(t *testing.T) {
	for _, text := range []string{"^a", "^", "^a*", "(^a)b*", "^(a|b)", "^.*$"} {
		one := try(t, text, extended)
		wantSearch(t, one, "aaa", 0, 0, sim.Longest(one.n, []byte("aaa"), 0).Span.End)
		for from := 1; from <= 3; from++ {
			wantSearch(t, one, "aaa", from, 0, -1)
			wantLongest(t, one, "aaa", from, -1)
		}
	}
	for _, text := range []string{"a$", "$", "b*$", "(a|b)$"} {
		one := try(t, text, extended)
		for from := range 4 {
			wantAny(t, one, "aaa", from, text[0] != 'a' && text[0] != '(' || from < 3)
			wantAny(t, one, "aaac", from, text == "$" || text == "b*$")
		}
	}
}

// TestPlaces: a place that is none tells nothing at all.
func TestPlaces(t *testing.T) {
	for _, text := range []string{"a", "a*", "^", "$", "^$", "a{0}", "."} {
		one := try(t, text, extended)
		for _, s := range []string{"", "a", "aaaa"} {
			for _, at := range []int{-1, -2, len(s) + 1, len(s) + 2, math.MaxInt, math.MinInt, math.MaxInt32, 1 << 32} {
				wantLongest(t, one, s, at, -1)
				wantSearch(t, one, s, at, 0, -1)
			}
		}
	}
	one := try(t, "a*", extended) // what lies behind the length is no place, either
	if got := sim.Longest(one.n, []byte("aaaa")[:2], 3); got != (api.Hit{}) {
		t.Error("behind the length:", got)
	}
}

// TestP10_4: visits of Longest are the states that are reached, place by place; so are those of the others, where they must go to the end.
func TestP10_4(t *testing.T) {
	for _, text := range []string{"a", "a*", "(a|b)*", "ab|ba|c", "(a*)*", "(a|aa)+", "a{2,4}", "^a*$", "(^|a)*b", "a{0}", "(ab){0,3}", "a**", "(a?){5}", "$|^", ".*.*.*"} {
		one := try(t, text, extended)
		for _, s := range subjectsOf("ab", 5) {
			for at := range len(s) + 1 {
				if got, want := sim.Longest(one.n, []byte(s), at).Visits, counted(one.n, s, at, false); got != want {
					t.Fatalf("Longest(%q, %q, %d): %d visits, want %d", text, s, at, got, want)
				}
				missed := counted(one.n, s, at, true)
				if got := sim.Any(one.n, []byte(s), at); !got.Ok && got.Visits != missed {
					t.Fatalf("Any(%q, %q, %d): %d visits, want %d", text, s, at, got.Visits, missed)
				}
				if got := sim.Search(one.n, []byte(s), at); !got.Ok && (got.Visits < missed || got.Visits > 3*missed) {
					t.Fatalf("Search(%q, %q, %d): %d visits, Any makes %d", text, s, at, got.Visits, missed)
				}
			}
		}
	}
}

// TestP10_4Ends: no call goes on for longer than it must.
func TestP10_4Ends(t *testing.T) {
	long := strings.Repeat("b", 100000)
	for text, s := range map[string]string{"a": "a" + long, "a*": "aaa" + long, "^a|^aab": "aab" + long, "(a|c){1,9}": "acaca" + long, "^": long, "a?": long} {
		one := try(t, text, extended)
		most := 16 * one.n.States()
		for call, got := range map[string]api.Hit{"Longest": sim.Longest(one.n, []byte(s), 0), "Any": sim.Any(one.n, []byte(s), 0), "Search": sim.Search(one.n, []byte(s), 0)} {
			if !got.Ok || got.Visits > most {
				t.Errorf("%s(%q): %v", call, text, got)
			}
		}
	}
}

// TestP10_4Great: heavy automata and expressions that match in more ways than can be tried keep to their bound.
func TestP10_4Great(t *testing.T) {
	as := strings.Repeat("a", 500)
	for _, text := range []string{"(a*)*c", "(a|a)*c", "(a|aa)+c", "(a*a*)*c", "(a*){20}c", "(a?){0,255}(a*)*c", "(a*|b*)*c", "((a*)*)*c", "(a+)+c", "(a{0}|a)*c", "(a?){100}a{100}c", "(a?){4}{250}c|ac", "a{31}{129}", "(a{30}{132})*c"} {
		one := try(t, text, extended)
		wantSearch(t, one, as, 0, 0, -1)
		wantLongest(t, one, as, 0, -1)
		wantAll(t, one, as)
	}
	one := try(t, "(a|b)*a(a|b){12}", extended)
	s := strings.Repeat("ab", 2000) + "bbbbbbbbbbbb"
	wantSearch(t, one, s, 0, 0, len(s)-1)
	wantLongest(t, one, s, 1, len(s)-1)
	wantAll(t, one, s, api.Span{Start: 0, End: len(s) - 1})
	wantSearch(t, try(t, "a{31}{129}", extended), strings.Repeat("b", 100)+strings.Repeat("a", 4100), 0, 100, 4099)
	long := strings.Repeat("\x00\xff\n", 100000)
	wantSearch(t, try(t, "^.*$", extended), long, 0, 0, len(long))
	wantSearch(t, try(t, ".*x", extended), long, 0, 0, -1)
	wantSearch(t, try(t, "x*$", extended), long, 0, len(long), len(long))
	wantSearch(t, try(t, "\n.?$|\xff.*x", extended), long, 7, len(long)-1, len(long))
}

// TestP10_5: all matches of a global replacement.
func TestP10_5(t *testing.T) {
	for _, want := range []struct{ text, s, spans string }{
		{"a*", "baac", "0 0, 1 3, 4 4"}, {"a*", "", "0 0"}, {"a*", "aa", "0 2"}, {"a*", "aab", "0 2, 3 3"}, {"a*", "bb", "0 0, 1 1, 2 2"}, {"a*", "abab", "0 1, 2 3, 4 4"}, {"a*", "baba", "0 0, 1 2, 3 4"}, {"a+", "baacab", "1 3, 4 5"}, {"a", "aaa", "0 1, 1 2, 2 3"}, {"a", "bbb", ""}, {"a", "", ""}, {"aa", "aaaaa", "0 2, 2 4"}, {"aba", "ababa", "0 3"}, {"ab|a|b", "aabb", "0 1, 1 3, 3 4"},
		{"^a", "aaa", "0 1"}, {"^", "aaa", "0 0"}, {"^a*", "aaba", "0 2"}, {"$", "aaa", "3 3"}, {"a$", "aaa", "2 3"}, {"a*$", "baa", "1 3"}, {"^|$", "ab", "0 0, 2 2"}, {"^|$", "", "0 0"}, {"^a|b", "aab", "0 1, 2 3"}, {"^|a", "aab", "0 1, 1 2"}, {"^|a", "baab", "0 0, 1 2, 2 3"}, {"a|$", "aba", "0 1, 2 3"}, {"a|$", "ab", "0 1, 2 2"}, {"b*|$", "ab", "0 0, 1 2"}, {"x{0}", "ab", "0 0, 1 1, 2 2"}, {"^a{0}", "ab", "0 0"}, {".", "ab", "0 1, 1 2"}, {".*", "ab", "0 2"}, {".*", "", "0 0"}, {".{2}", "abcde", "0 2, 2 4"}, {"a?", "aab", "0 1, 1 2, 3 3"}, {"(ab)*", "abaab", "0 2, 3 5"}, {"(ab)*", "ababbab", "0 4, 5 7"}, {"a*|b", "aabab", "0 2, 2 3, 3 4, 4 5"}, {"b|c*", "abcb", "0 0, 1 2, 2 3, 3 4"}, {"\n", "a\nb\n", "1 2, 3 4"}, {"a$|b", "abab", "1 2, 3 4"}, {"a|a.*z", "aaza", "0 3, 3 4"}, {"a|a.*z", "aaa", "0 1, 1 2, 2 3"},
	} {
		wantAll(t, try(t, want.text, extended), want.s, spansOf(want.spans)...)
	}
	wantAll(t, try(t, `\(ab\)*c\{0,1\}`, basic), "ababcbc", spansOf("0 5, 6 7")...)
	var want []api.Span
	for i := range 3000 {
		want = append(want, api.Span{Start: 2 * i, End: 2*i + 1})
	}
	wantAll(t, try(t, "a", extended), strings.Repeat("ab", 3000), want...)
	wantAll(t, try(t, "a*", extended), strings.Repeat("ab", 3000), append(want, api.Span{Start: 6000, End: 6000})...)
}

// TestExamples: what the document shows.
func TestExamples(t *testing.T) {
	wantSearch(t, try(t, "a*b", extended), "xaab", 0, 1, 4)
	wantLongest(t, try(t, "a*", extended), "xa", 0, 0)
	wantSearch(t, try(t, "^a", extended), "ba", 1, 0, -1)
	wantAny(t, try(t, "$", extended), "", 0, true)
	wantAll(t, try(t, "a*", extended), "baac", spansOf("0 0, 1 3, 4 4")...)
}

// TestReadme: what README.md shows.
func TestReadme(t *testing.T) {
	one := try(t, "a*b", extended)
	wantSearch(t, one, "xaab", 0, 1, 4)
	wantLongest(t, one, "xaab", 0, -1)
	wantAny(t, one, "xaab", 3, true)
	wantAll(t, one, "abbxab", spansOf("0 2, 2 3, 4 6")...)
}

// TestNil: a nil automaton tells zero values, and one that was not built does, too.
func TestNil(t *testing.T) {
	for _, n := range []*nfa.Nfa{nil, new(nfa.Nfa)} {
		for _, s := range []string{"", "a", "abc"} {
			for _, at := range []int{-1, 0, 1, 2, 4, math.MaxInt, math.MinInt} {
				for call, got := range map[string]api.Hit{"Longest": sim.Longest(n, []byte(s), at), "Any": sim.Any(n, []byte(s), at), "Search": sim.Search(n, []byte(s), at)} {
					if got != (api.Hit{}) {
						t.Errorf("%s(nil, %q, %d): %v", call, s, at, got)
					}
				}
			}
			if got := sim.All(n, []byte(s)); len(got) != 0 {
				t.Errorf("All(nil, %q): %v", s, got)
			}
		}
		if got := sim.All(n, nil); len(got) != 0 || sim.Any(n, nil, 0).Ok {
			t.Errorf("All(nil, nil): %v", got)
		}
	}
}

// TestKept: the subject stays as it is; what lies behind its length is not read; what was asked before makes no difference; what is told is new.
func TestKept(t *testing.T) {
	whole := []byte("abbaab")
	for _, text := range []string{"a*", "(ab)*", "a.*$", "^(a|b)*", "ab", "abb$", ".{5}", "(a$|b)*", "b*$"} {
		one := try(t, text, extended)
		for range 2 {
			for length := range len(whole) + 1 {
				check(t, one, []string{string(whole[:length])})
				s := whole[:length]
				if got, want := sim.Search(one.n, s, 0), sim.Search(one.n, []byte(string(s)), 0); got != want {
					t.Errorf("Search(%q, %q), with more behind it: %v, want %v", text, s, got, want)
				}
				if got, want := sim.Longest(one.n, s, length), sim.Longest(one.n, []byte(string(s)), length); got != want {
					t.Errorf("Longest(%q, %q), with more behind it: %v, want %v", text, s, got, want)
				}
				got := sim.All(one.n, s)
				for i := range got {
					got[i] = api.Span{Start: -7, End: -7}
				}
				wantAll(t, one, string(s), tableOf(one.tree, string(s)).allOf()...)
			}
		}
		if !slices.Equal(sim.All(one.n, nil), sim.All(one.n, []byte{})) || sim.Search(one.n, nil, 0) != sim.Search(one.n, []byte{}, 0) {
			t.Errorf("%q: nil is not as the empty subject", text)
		}
	}
	if string(whole) != "abbaab" {
		t.Errorf("the subject is %q now", whole)
	}
}

// TestMany: calls at one time are as one behind the other, at one automaton, too.
func TestMany(t *testing.T) {
	one := try(t, "(a|b{2})+c?", extended)
	s := []byte("cabbac-bbb-a")
	search, longest, some := sim.Search(one.n, s, 0), sim.Longest(one.n, s, 7), sim.Any(one.n, s, 10)
	var all sync.WaitGroup
	for range 8 {
		all.Go(func() {
			for range 200 {
				if sim.Search(one.n, s, 0) != search || sim.Longest(one.n, s, 7) != longest || sim.Any(one.n, s, 10) != some || !slices.Equal(sim.All(one.n, s), spansOf("1 6, 7 9, 11 12")) {
					t.Error("another answer")
				}
			}
		})
	}
	all.Wait()
}
