package nfa_test

import (
	"strconv"
	"strings"
	"sync"
	"testing"

	"pidgin/api"
	"pidgin/fault"
	"pidgin/nfa"
	"pidgin/retext"
)

// TestP9_1: the weight of each kind of expression, and of some in one another.
func TestP9_1(t *testing.T) {
	for text, want := range map[string]int{
		"a": 2, ".": 2, "[^a]": 2, `\.`: 2, "^": 2, "$": 2, "^$": 3,
		"ab": 3, "abc": 4, "^a.$": 5, "a|b": 4, "a|b|c": 6, "ab|c": 5, "a|b|c|d|e": 10,
		"(a)": 2, "(((a)))": 2, "(a)(b)": 3, "(a|b)c": 5, "((a|b)|c)": 6, "a|(b|c)": 6,
		"a*": 3, "a+": 4, "a?": 3, "a{0}": 1, "a{0,0}": 1, "a{1}": 2, "a{1,1}": 2, "a{3}": 4, "a{0,1}": 3, "a{0,5}": 11, "a{2,4}": 7, "a{3,4}": 6, "a{0,}": 3, "a{1,}": 4, "a{2,}": 5,
		"a{255}": 256, "a{0,255}": 511, "a{254,255}": 257, "a{255,}": 258,
		"(ab)*": 4, "(ab)+": 6, "(ab)?": 4, "(ab){3}": 7, "(ab){2,5}": 14, "(a|b)*": 5, "(a|b)+": 8, "(a|b){2,4}": 15, "(a|b){2,}": 11,
		"a**": 4, "a++": 8, "a??": 4, "a*+": 6, "a+*": 5, "a?{2}": 5, "a{2}{3}": 7, "a{2}*": 4, "(a*)*": 4, "(a{2,3}|b){2}": 13,
		"a{0}*": 2, "a{0}+": 2, "a{0}?": 2, "a{0}{9}": 1, "a{0}{0,7}": 8, "a{0}{3,7}": 5, "a{0}|b": 3, "(a{0}|b){2}": 5, "a{0}b": 2, "(ab|c){0}": 1, "a{255}{255}{0}": 1,
		"(^|a)b": 5, "(^a$)*": 5, "((a|b)*c){3}": 16,
	} {
		wantWeight(t, text, extended, want)
		wantWeight(t, "("+text+")", extended, want)
	}
	for text, want := range map[string]int{
		"a": 2, ".": 2, "[^a]": 2, "^": 2, "$": 2, "^$": 3, "ab": 3, "a*": 3, "*": 2, "**": 3, "^*": 3, "a^b": 4, "a$b": 4, "a|b": 4, "a+": 3, "a?": 3, "a{2}": 5, "(a)": 4, `\(a\)`: 2, `\(ab\)*`: 4, `a\{2,4\}`: 7, `a\{2,\}`: 5, `a\{0\}`: 1, `\(^a$\)`: 4, `\(a*\)\{3\}`: 7, `\(a\{1,3\}b\)\{2,\}`: 20,
	} {
		wantWeight(t, text, basic, want)
	}
}

// TestP9_1Great: weights about the greatest that are told apart, and far above it.
func TestP9_1Great(t *testing.T) {
	for text, want := range map[string]int{
		"a{31}{129}": 4000, "(a{31}){129}": 4000, "a{43}{93}": 4000, "a{16}{250}": 4001, "a{31}{129}b": 4001, "a{31}{129}bb": 4001, "b{0}a{31}{129}c{0}": 4000, "a{31}{128}b{30}": 3999, "a{31}{128}b{31}": 4000, "a{31}{128}b{32}": 4001, "a{31}{128}b{33}": 4001, "(a{31}{129})*": 4001, "(a{30}{133})*": 3992, "a{31}{129}|b": 4001, "a{41}{48,}": 2011, "a{41}{96,}": 3979, "a{41}{97,}": 4001, "a{7}{0,255}": 2041, "a{14}{0,255}": 3826, "a{15}{0,255}": 4001, "a{15}{175,255}": 3906, "a{255}{255}": 4001, "(a{255}){255}": 4001,
		"a++++++++++": 2048, "a+++++++++++": 4001, "a{2}{2}{2}{2}{2}{2}{2}{2}{2}{2}{2}": 2049, "a{2}{2}{2}{2}{2}{2}{2}{2}{2}{2}{2}{2}": 4001,
	} {
		wantWeight(t, text, extended, want)
	}
	for _, form := range []string{"{2}", "{3}", "{16}", "{64}", "{128}", "{255}", "+", "{254,255}", "{255,}", "{0,255}"} {
		for times := 1; 1+times*len(form)+5 <= api.MaxRe; times++ {
			text := "a" + strings.Repeat(form, times)
			want := secondWhole(parse(t, text, extended).Tree())
			wantWeight(t, text, extended, want)
			if times > 11 && want != 4001 {
				t.Fatalf("the second reading of %q tells %d", text, want)
			}
			wantWeight(t, text+"{0}", extended, 1)
			wantWeight(t, text+"{0}b", extended, 2)
			wantWeight(t, text+"{1}", extended, want)
		}
	}
	heavy := "a{255}{255}{255}{255}{255}{255}{255}{255}"
	for _, text := range []string{heavy, heavy + heavy, heavy + "|" + heavy, "(" + heavy + ")*", heavy + "?", "b" + heavy + "b{0}", "(" + heavy + "){0}" + heavy} {
		wantRefused(t, text, extended)
	}
	wantWeight(t, "("+heavy+"|"+heavy+"){0}b", extended, 2)
}

// TestP9_2: what is no heavier than it may be is built; what is, is refused in its grammar's language.
func TestP9_2(t *testing.T) {
	for _, text := range []string{"a{31}{129}", "(a{31}){129}", "a{31}{128}b{31}", "a{31}{128}b*b{29}", "(^a{31}){124}b{30}$", "a{14}{0,255}"} {
		build(t, text, extended)
		build(t, inBasic(text), basic)
	}
	for _, text := range []string{"a{16}{250}", "a{31}{129}b", "^a{31}{129}", "a{31}{129}$", "(a{31}{129})*", "a{31}{128}b{32}", "a{255}{255}", "(a{255}){255}", "a{255}{255}{255}{255}{255}{255}", "a{15}{0,255}", "a{128}{128}{128}{128}{128}{128}{128}{128}{128}{128}"} {
		wantRefused(t, text, extended)
		wantRefused(t, inBasic(text), basic)
	}
	wantRefused(t, "a{31}{129}|b", extended)
	wantRefused(t, "a+++++++++++", extended)
	for _, text := range []string{"a", "a*", "a{0}", "a{0}{255}", "^", "$", "(a|b)*", "a{255}", ".{3,7}", "a{0}{0,255}", "a{0}*", "a{255}{255}{0}"} {
		n, again := build(t, text, extended), build(t, text, extended)
		if n.States() != again.States() {
			t.Errorf("%q: %d states, then %d", text, n.States(), again.States())
		}
		states := n.States()
		n.Accepts([]byte("aaa"))
		if n.States() != states {
			t.Errorf("%q: %d states, and %d behind Accepts", text, states, n.States())
		}
	}
}

// TestP9_2Kept: the expression stays as it is, and the automaton needs it no more.
func TestP9_2Kept(t *testing.T) {
	b := []byte("(a|b{2})*c")
	r, err := retext.Parse(b, extended)
	if err != nil {
		t.Fatal(err)
	}
	text := r.Text()
	n, err := nfa.Build(r)
	if err != nil || nfa.Weight(r) != 7 || r.Text() != text {
		t.Errorf("%v, weight %d: %s, was %s", err, nfa.Weight(r), r.Text(), text)
	}
	copy(b, "zzzzzzzzzz")
	tree := r.Tree()
	tree.Kids[0].Kids = nil
	if !n.Accepts([]byte("abbac")) || n.Accepts([]byte("abac")) {
		t.Error("the automaton is another one now")
	}
}

// TestP9_3: subjects that are accepted, and some that are not.
func TestP9_3(t *testing.T) {
	for text, want := range map[string][2]string{ // what is accepted; what is not; with spaces between, and - for the empty subject
		"a": {"a", "- b aa ab ba A"}, "abc": {"abc", "- a ab bc abcd xabc acb"}, "a.c": {"abc a.c acc", "ac abbc ab"}, "[a-c]x": {"ax bx cx", "dx x abx -x"}, "[^a]": {"b c ^", "a - bb"}, `a\.b`: {"a.b", "axb"},
		"a|b": {"a b", "- ab ba aa |"}, "ab|cd|e": {"ab cd e", "- a abcd ae cde abe"}, "(a|ab)(c|bcd)": {"ac abc abcd abbcd", "ab abbc acd"}, "a|b|c*": {"a b - c ccc", "ab ac bc cca"},
		"a*": {"- a aa aaaaaaa", "b ab ba aab"}, "a+": {"a aa aaa", "- b ab"}, "a?": {"- a", "aa b"}, "a*b": {"b ab aaab", "- a ba abb"}, "(ab)*": {"- ab abab ababab", "a aba ba abb"}, "(a|b)*": {"- a b ab ba aabb", "c abc"}, "(a|b)*abb": {"abb aabb babb abbabb", "ab abba abbb"}, "(a*b)*": {"- b ab aabb babab", "a ba aba"}, "(ab|a)(bc)?": {"a ab abc abbc", "bc abcbc"}, "((a|b)c)+": {"ac bc acbc", "- a acb c"},
		"a{2}": {"aa", "- a aaa"}, "a{2,3}": {"aa aaa", "- a aaaa"}, "a{2,}": {"aa aaa aaaaaaaa", "- a"}, "a{0}": {"-", "a aa"}, "a{0}b": {"b", "- a ab"}, "(ab){2}": {"abab", "ab ababab aabb"}, "(a|b){2}": {"aa ab ba bb", "a aab"}, "a{2}{3}": {"aaaaaa", "aaaaa aaaaaaa aa aaa"}, "a{2,3}{2}": {"aaaa aaaaa aaaaaa", "aaa aaaaaaa aa"}, "(a{2})*": {"- aa aaaa", "a aaa"}, "(a{2}|a{3})*": {"- aa aaa aaaaa aaaaaa", "a"}, "(ab?){2,3}": {"aa aba aab abab aaba abaab", "a ab aaaa"},
		"^a$": {"a", "- aa"}, "^": {"-", "a"}, "$": {"-", "a"}, "^$": {"-", "a"}, "$^": {"-", "a"}, "^^a$$": {"a", "aa -"}, "a^b": {"", "ab a b -"}, "a$b": {"", "ab a b -"}, "a^": {"", "a -"}, "$a": {"", "a -"}, "a*^b": {"b", "ab - a"}, "a$b*": {"a", "ab - b"}, "(^a|b)*": {"- a ab abb b bb", "aa aba ba"}, "(a|b$)*": {"- a aa ab b aab", "ba bb aba"}, "(^|a)b": {"b ab", "aab a bb"}, "a(b|$)": {"a ab", "abb b"}, "(^a){2}": {"", "a aa -"}, "(^){2}a": {"a", "aa -"}, "a($){3}": {"a", "aa -"}, "(a$|ab)c*": {"a ab abc", "ac abb"}, "(^|$)*": {"-", "a"}, "(^|a|$)*": {"- a aa", "b ab"}, "(a*^)*b": {"b", "ab aab"}, "(a|^)*b": {"b ab aab", "bb - a"}, "b($|a)*": {"b ba baa", "bb -"},
		"(a*)*": {"- a aa", "b"}, "(a*)+": {"- a aa", "b"}, "(a*){3}": {"- a aa aaaa", "b"}, "(a?){3}": {"- a aa aaa", "aaaa"}, "(a?){2,}": {"- a aaaaa", "b"}, "(a*|b)*c": {"c abc bac aac", "ab -"}, "a**": {"- a aa", "b"}, "a?*": {"- a aa", "b"}, "a+?": {"- a aa", "b"}, "(a*b*){2}": {"- ab ba abab aabbab", "baba"}, "(a*b*){0}": {"-", "a b"}, "(a{0}|b)*": {"- b bb", "a"},
		"a{0}*": {"-", "a"}, "a{0}{0,255}": {"-", "a"}, "a{0}+": {"-", "a"}, "(a{0}b){2}": {"bb", "b abb"},
	} {
		for _, s := range strings.Fields(want[0]) {
			wantAccepts(t, text, extended, strings.TrimPrefix(s, "-"), true)
		}
		for _, s := range strings.Fields(want[1]) {
			wantAccepts(t, text, extended, strings.TrimPrefix(s, "-"), false)
		}
	}
}

// TestP9_3Basic: texts of the basic grammar.
func TestP9_3Basic(t *testing.T) {
	for text, want := range map[string][2]string{
		"a*b": {"b ab aab", "a -"}, "*a": {"*a", "a aa"}, "^*a": {"*a", "a"}, "a|b": {"a|b", "a b"}, "a+": {"a+", "a aa"}, "(a)": {"(a)", "a"}, "a{2}": {"a{2}", "aa"}, `\(ab\)*c`: {"c abc ababc", "ac"}, `a\{2,3\}`: {"aa aaa", "a aaaa -"}, `a\{2,\}b`: {"aab aaab", "ab"}, `\(a\{2\}\)*`: {"- aa aaaa", "a aaa"}, "a^b": {"a^b", "ab"}, "a$b": {"a$b", "ab"}, `\(^a\)b`: {"ab", "b aab"}, `b\(^a\)`: {"", "ba a"}, `a\(b$\)`: {"ab", "a"}, `\(a$\)b*`: {"a", "ab -"}, `\(^a\)*b`: {"b ab", "aab"}, "^$": {"-", "a"}, ".*": {"- abc", ""},
	} {
		for _, s := range strings.Fields(want[0]) {
			wantAccepts(t, text, basic, strings.TrimPrefix(s, "-"), true)
		}
		for _, s := range strings.Fields(want[1]) {
			wantAccepts(t, text, basic, strings.TrimPrefix(s, "-"), false)
		}
	}
}

// TestP9_3Bytes: each byte is taken by what it is in, and by nothing else.
func TestP9_3Bytes(t *testing.T) {
	for _, text := range []string{".", "a", "[a-z]", "[^a-z]", `\n`, "[\x80-\xff]", "[\x00-\x1f]", "[\x3f\x40\x7f\x80\xbf\xc0]", "[^\x00]", "[^\xff]", "[\x00-\xff]", "[^\x00-\xff]", "[[:digit:]]", "\xff", "\x00"} {
		re := parse(t, text, extended).Tree()
		one, three, many := build(t, text, extended), build(t, "a"+text+"b", extended), build(t, "("+text+")*", extended)
		for b := range 256 {
			s := string([]byte{byte(b)})
			want := re.Set[b/64]>>(b%64)&1 == 1
			if one.Accepts([]byte(s)) != want || three.Accepts([]byte("a"+s+"b")) != want || many.Accepts([]byte(s+s+s)) != want {
				t.Errorf("%q: %q is accepted: %v", text, s, !want)
			}
		}
	}
	wantAccepts(t, "é.", extended, "éa", true)
	wantAccepts(t, "é.", extended, "éé", false)
	wantAccepts(t, "[^\x00-\xff]*", extended, "", true)
}

// TestP9_3Lines: a line feed is a byte as others are; the beginning and the end are the subject's.
func TestP9_3Lines(t *testing.T) {
	for text, want := range map[string][2]string{".*": {"a\nb|\n|\n\n", ""}, "^.*$": {"a\nb|\n", ""}, "a$": {"a", "a\n|\na"}, "^b": {"b", "\nb"}, ".*^b": {"b", "a\nb|\nb"}, "a$.*": {"a", "a\nb|a\n"}, `a$\n^b`: {"", "a\nb|a|b"}, `^a\n$`: {"a\n", "a|a\na"}, `(^a$|\n)*`: {"a|\n|\n\n", "a\na|a\n|\na"}} {
		for _, s := range strings.FieldsFunc(want[0], func(r rune) bool { return r == '|' }) {
			wantAccepts(t, text, extended, s, true)
		}
		for _, s := range strings.FieldsFunc(want[1], func(r rune) bool { return r == '|' }) {
			wantAccepts(t, text, extended, s, false)
		}
	}
}

// TestP9_3Times: intervals accept just as many as they say, small and great.
func TestP9_3Times(t *testing.T) {
	for _, atom := range []string{"a", "(a)", "[a-c]", "(aa{0})", "(a|b)"} {
		for least := range 6 {
			wantTimes(t, atom, strconv.Itoa(least), least, least, 9)
			wantTimes(t, atom, strconv.Itoa(least)+",", least, 1<<30, 9)
			for most := least; most < 6; most++ {
				wantTimes(t, atom, strconv.Itoa(least)+","+strconv.Itoa(most), least, most, 9)
			}
		}
	}
	wantTimes(t, "a", "255", 255, 255, 300)
	wantTimes(t, "a", "254,255", 254, 255, 300)
	wantTimes(t, "a", "0,255", 0, 255, 300)
	wantTimes(t, "a", "1,255", 1, 255, 300)
	wantTimes(t, "a", "255,", 255, 1<<30, 300)
	wantTimes(t, "a", "100,200", 100, 200, 300)
	for _, n := range []int{0, 1, 255, 3998, 3999, 4000, 4001, 7998} {
		wantAccepts(t, "a{31}{129}", extended, strings.Repeat("a", n), n == 3999)
		wantAccepts(t, `\(a\{31\}\)\{129\}`, basic, strings.Repeat("a", n), n == 3999)
		wantAccepts(t, "(a{30}{133})*", extended, strings.Repeat("a", n), n == 0 || n == 7980)
	}
	wantAccepts(t, "(a{30}{133})*", extended, strings.Repeat("a", 7980), true)
}

// wantTimes: the atom with that interval, in both grammars, accepts least to most times an a.
func wantTimes(t *testing.T, atom, interval string, least, most, upTo int) {
	t.Helper()
	texts := map[string]bool{atom + "{" + interval + "}": extended}
	if !strings.Contains(atom, "|") {
		texts[inBasic(atom+"{"+interval+"}")] = basic
	}
	for text, ext := range texts {
		n := build(t, text, ext)
		for length := range upTo {
			want := least <= length && length <= most
			if got := n.Accepts([]byte(strings.Repeat("a", length))); got != want {
				t.Fatalf("%q: %d times an a are accepted: %v", text, length, got)
			}
			if length > 0 && n.Accepts([]byte(strings.Repeat("a", length-1)+"x")) {
				t.Fatalf("%q: an x is accepted", text)
			}
		}
	}
}

// TestP9_3Long: long subjects, and expressions that match in more ways than can be tried.
func TestP9_3Long(t *testing.T) {
	for _, n := range []int{30, 100, 5000} {
		as := strings.Repeat("a", n)
		for _, text := range []string{"(a*)*", "(a|a)*", "(a|aa)+", "(a*a*)*", "(a*){20}", "(a?){0,255}(a*)*", "a*a*a*a*a*a*", "(a*|b*)*", "((a*)*)*", "(a+)+", "(.|a)*", "a*****", "(a{0}|a)*"} {
			n := build(t, text+"c", extended)
			if !n.Accepts([]byte(as+"c")) || n.Accepts([]byte(as+"b")) || n.Accepts([]byte(as)) || n.Accepts([]byte("b"+as+"c")) != (text == "(.|a)*" || text == "(a*|b*)*") {
				t.Errorf("%q: wrong over %d times an a", text, len(as))
			}
		}
	}
	wantAccepts(t, "(a?){100}a{100}", extended, strings.Repeat("a", 99), false)
	wantAccepts(t, "(a?){100}a{100}", extended, strings.Repeat("a", 100), true)
	wantAccepts(t, "(a?){100}a{100}", extended, strings.Repeat("a", 200), true)
	wantAccepts(t, "(a?){100}a{100}", extended, strings.Repeat("a", 201), false)
	wantAccepts(t, "(a|b)*a(a|b){12}", extended, strings.Repeat("ab", 5000)+"bbbbbbbbbbbb", false)
	wantAccepts(t, "(a|b)*a(a|b){12}", extended, strings.Repeat("ab", 5000)+"abbbbbbbbbbbb", true)
	wantAccepts(t, "^.*$", basic, strings.Repeat("\x00\xff\n", 100000), true)
	wantAccepts(t, "(ab)*", extended, strings.Repeat("ab", 100000), true)
	wantAccepts(t, "(ab)*", extended, strings.Repeat("ab", 100000)+"a", false)
}

// TestP9_3Nothing: what stands no times is built at once, however often that is.
func TestP9_3Nothing(t *testing.T) {
	for _, text := range []string{"a{0}" + strings.Repeat("{255}", 50), "(a{0}b{0}(c{0}){255})" + strings.Repeat("{255}", 40), "a{0}" + strings.Repeat("{1}{255}", 30) + "*", "a" + strings.Repeat("{255}", 49) + "{0}", "((a{0}){255}{255}{255}{255}{255}{255}{255}{255}){255}{0,9}"} {
		wantAccepts(t, text, extended, "", true)
		wantAccepts(t, text, extended, "a", false)
		wantAccepts(t, "b"+text, extended, "b", true)
		wantAccepts(t, "b"+text, extended, "ba", false)
	}
	for _, text := range []string{"a" + strings.Repeat("*", 255), "a" + strings.Repeat("?", 255), "a*" + strings.Repeat("{1}", 80), strings.Repeat("a?", 128), strings.Repeat("a*", 128), "(a" + strings.Repeat("{1}", 80) + ")?"} {
		wantAccepts(t, text, extended, "", true)
		wantAccepts(t, text, extended, "a", true)
		wantAccepts(t, text, extended, "b", false)
	}
}

// TestExamples: what the document shows.
func TestExamples(t *testing.T) {
	for text, want := range map[string]int{"a": 2, "(a|b)*": 5, "a{3}": 4, "a{2,4}": 7, "a{2,}": 5} {
		wantWeight(t, text, extended, want)
		if states := build(t, text, extended).States(); states > want {
			t.Errorf("%q: %d states, want at most %d", text, states, want)
		}
	}
	wantRefused(t, "(a{255}){255}", extended)
}

// TestNil: a nil expression has no weight and is refused; a nil automaton has no states and accepts nothing.
func TestNil(t *testing.T) {
	if got := nfa.Weight(nil); got != 0 {
		t.Errorf("Weight(nil): %d", got)
	}
	n, err := nfa.Build(nil)
	if want := (api.Fault{Code: api.CodeArg}); n != nil || fault.Tell(err) != want {
		t.Errorf("Build(nil): %v, %s", n, fault.Text(fault.Tell(err)))
	}
	for _, s := range []string{"", "a", "abc"} {
		if n.States() != 0 || n.Accepts([]byte(s)) || n.Accepts(nil) {
			t.Errorf("nil: %d states, or %q is accepted", n.States(), s)
		}
	}
	nfa.Weight(new(retext.Re)) // what was not made by the calls may be handed in, too
	if n, err := nfa.Build(new(retext.Re)); n != nil && err != nil {
		t.Error("an automaton beside an error:", err)
	}
	new(nfa.Nfa).States()
	new(nfa.Nfa).Accepts(nil)
	new(nfa.Nfa).Accepts([]byte("a"))
}

// TestKept: the subject stays as it is; what lies behind its length is not read; what was asked before makes no difference.
func TestKept(t *testing.T) {
	whole := []byte("abbaab")
	for _, text := range []string{"a*", "(ab)*", "a.*$", "^(a|b)*", "a{0,1}b{0,2}(a|b)*", "ab", "abb$", ".{5}", "(a$|b)*"} {
		n := build(t, text, extended)
		re := parse(t, text, extended).Tree()
		for range 2 {
			for length := range len(whole) + 1 {
				s := whole[:length]
				if got := n.Accepts(s); got != matches(re, string(s)) {
					t.Errorf("%q: %q, with more behind it, is accepted: %v", text, s, got)
				}
			}
			for from := range whole {
				if got := n.Accepts(whole[from:]); got != matches(re, string(whole[from:])) {
					t.Errorf("%q: %q, with more ahead of it, is accepted: %v", text, whole[from:], got)
				}
			}
		}
		if n.Accepts(nil) != matches(re, "") || n.Accepts([]byte{}) != matches(re, "") {
			t.Errorf("%q: nil is accepted: %v", text, n.Accepts(nil))
		}
	}
	if string(whole) != "abbaab" {
		t.Errorf("the subject is %q now", whole)
	}
}

// TestMany: calls at one time are as one behind the other.
func TestMany(t *testing.T) {
	var all sync.WaitGroup
	for range 8 {
		all.Go(func() {
			r, err := retext.Parse([]byte("(a|b{2})+c"), extended)
			if err != nil {
				t.Error(err)
				return
			}
			for range 200 {
				n, err := nfa.Build(r)
				if err != nil || nfa.Weight(r) != 11 || !n.Accepts([]byte("abbac")) || n.Accepts([]byte("abac")) {
					t.Error(err, nfa.Weight(r), n.States())
				}
			}
		})
	}
	all.Wait()
}
