package span_test

import (
	"math"
	"slices"
	"strings"
	"sync"
	"testing"

	"pidgin/api"
	"pidgin/retext"
	"pidgin/span"
)

// TestP11_1: what is found, and the spans of groups in rows, in one another, and of those that have none.
func TestP11_1(t *testing.T) {
	for _, row := range [][3]string{
		{"a", "bab", "1 2"}, {"(a)", "bab", "1 2, 1 2"}, {"a*", "baa", "0 0"}, {"(b)(a*)", "xbaa", "1 4, 1 2, 2 4"}, {"c", "bab", ""}, {"(c)", "", ""}, {"((a)(b))", "cab", "1 3, 1 3, 1 2, 2 3"}, {"^(a)", "aa", "0 1, 0 1"}, {"(a)$", "aa", "1 2, 1 2"}, {"(^)a($)", "a", "0 1, 0 0, 1 1"}, {"(^|x)($|y)", "", "0 0, 0 0, 0 0"}, {"(((((((((a)))))))))", "a", "0 1, 0 1, 0 1, 0 1, 0 1, 0 1, 0 1, 0 1, 0 1, 0 1"},
		{"(a*)(a*)", "aa", "0 2, 0 2, 2 2"}, {"(a*)(a+)", "aaa", "0 3, 0 2, 2 3"}, {"(a?)(a?)(a?)", "aa", "0 2, 0 1, 1 2, 2 2"}, {"(a|ab)(b*)", "abb", "0 3, 0 2, 2 3"}, {"(a|ab)(bb|c)", "abb", "0 3, 0 1, 1 3"}, {"(.*)(b)(.*)", "abab", "0 4, 0 3, 3 4, 4 4"}, {"(a*)b*(b*)", "abb", "0 3, 0 1, 3 3"}, {"((a*)b?)(b?)", "ab", "0 2, 0 2, 0 1, 2 2"}, {"(.{1,2})(.{1,2})(.)", "abcd", "0 4, 0 2, 2 3, 3 4"}, {"(a)b(c)d(e)", "xabcdex", "1 6, 1 2, 3 4, 5 6"}, {"(a*)(^|b)", "aab", "0 3, 0 2, 2 3"}, {"(a*)(^|b)$", "aa", ""}, {"(a*)($|b)", "aa", "0 2, 0 2, 2 2"},
	} {
		wantRow(t, row, extended)
	}
	for _, row := range [][3]string{
		{`\(a*\)\(b\)`, "caab", "1 4, 1 3, 3 4"}, {`^\(*\)`, "**a", "0 1, 0 1"}, {`\(\(a\)*\)\{2\}`, "aa", "0 2, 2 2, -"}, {`\(^a\)\(b$\)`, "ab", "0 2, 0 1, 1 2"}, {`\(a\n\)*`, "a\na\n", "0 4, 2 4"}, {`\(a|b\)`, "aa|b", "1 4, 1 4"},
	} {
		wantRow(t, row, basic)
	}
}

// TestP11_1From: the match is that of a search from a place on; the beginning is at 0, all the same.
func TestP11_1From(t *testing.T) {
	for text, want := range map[string]string{ // a subject; behind it what is found from each place on
		"(a)b": "abab;0 2, 0 1;2 4, 2 3;2 4, 2 3;;", "^(a)": "aa;0 1, 0 1;;", "(a*)": "aba;0 1, 0 1;1 1, 1 1;2 3, 2 3;3 3, 3 3", "(a)|(b)$": "ab;0 1, 0 1, -;1 2, -, 1 2;", "(^|b)(a*)": "aba;0 1, 0 0, 0 1;1 3, 1 2, 2 3;;", "(a+)(a)": "aaa;0 3, 0 2, 2 3;1 3, 1 2, 2 3;;",
	} {
		one, parts := try(t, text, extended), strings.Split(want, ";")
		for from, spans := range parts[1:] {
			wantFind(t, one, parts[0], from, spansOf(spans))
		}
		for _, from := range []int{-1, -2, len(parts[0]) + 1, math.MaxInt, math.MinInt, math.MaxInt32, 1 << 32} {
			wantFind(t, one, parts[0], from, nil)
		}
	}
	wantFind(t, try(t, "a*(b)?$", extended), "ab", 2, spansOf("2 2, -"))
}

// TestP11_1Branches: of several branches the one with the first group that has a span, else the first.
func TestP11_1Branches(t *testing.T) {
	for _, row := range [][3]string{
		{"(a)|b", "b", "0 1, -"}, {"(a)|(b)", "ab", "0 1, 0 1, -"}, {"(a)|(a)", "a", "0 1, 0 1, -"}, {"a|(a)", "a", "0 1, 0 1"}, {".|a|(b)|(a)|(.)", "a", "0 1, -, 0 1, -"}, {"(a)*|b*|(c*)", "", "0 0, -, 0 0"}, {"(x)*a|a|(a)", "a", "0 1, -, 0 1"}, {"(x)*(a)|(a)", "a", "0 1, -, 0 1, -"}, {"a|(ab)|(abc)", "abcd", "0 3, -, 0 3"}, {"(a|ab)|(ab|abc)", "abc", "0 3, -, 0 3"}, {"((a)|b)|(a)", "ab", "0 1, 0 1, 0 1, -"}, {"(b|(a))|(a)", "a", "0 1, 0 1, 0 1, -"}, {"(a|(a))(c|(b)|b)", "ab", "0 2, 0 1, 0 1, 1 2, 1 2"}, {"((a)|(a)|a)*", "aa", "0 2, 1 2, 1 2, -"}, {"(a{0})|(x)*|(b*)", "", "0 0, 0 0, -, -"}, {"x*|(y)*|z*", "", "0 0, -"}, {"x*|y*|(z*)", "", "0 0, 0 0"}, {"(a|b)(a|ab)|(aba)", "aba", "0 3, -, -, 0 3"},
	} {
		wantRow(t, row, extended)
	}
}

// TestP11_1Rounds: the spans of the last iteration, and how far each goes.
func TestP11_1Rounds(t *testing.T) {
	for _, row := range [][3]string{
		{"(a)*", "aaa", "0 3, 2 3"}, {"(a)*", "b", "0 0, -"}, {"(a)+", "aaa", "0 3, 2 3"}, {"(a)?", "aa", "0 1, 0 1"}, {"(a)?b", "b", "0 1, -"}, {"(a|b)*", "abab", "0 4, 3 4"}, {"((a)|(b))*", "ab", "0 2, 1 2, -, 1 2"}, {"((a)|b)*", "ab", "0 2, 1 2, -"}, {"(a*)*", "aa", "0 2, 0 2"}, {"(a*b*)*", "aabba", "0 5, 4 5"}, {"(a|ab|b)*", "abab", "0 4, 2 4"}, {"(ab|a|ba)*", "aba", "0 3, 2 3"}, {"(a|aa)*", "aaa", "0 3, 2 3"}, {"(aa|aaa)*", "aaaaa", "0 5, 3 5"}, {"(aa|aaa)*", "aaaa", "0 4, 2 4"}, {"(aaa|aa)*", "aaaaaaa", "0 7, 5 7"}, {"(a|bc|abcd)*(e|d)", "abcd", "0 4, 1 3, 3 4"}, {"(a|bc|abcd)*(d?)", "abcd", "0 4, 0 4, 4 4"},
		{"(a){2}", "aaa", "0 2, 1 2"}, {"(a){2,3}", "aaaa", "0 3, 2 3"}, {"(a){0}b", "ab", "1 2, -"}, {"(a){0,2}", "aaa", "0 2, 1 2"}, {"(a*){3}", "aa", "0 2, 2 2"}, {"(a+){2}", "aaa", "0 3, 2 3"}, {"(a+){2,3}", "aaa", "0 3, 2 3"}, {"(a+){3}", "aaaaa", "0 5, 4 5"}, {"(a+|b){2,}", "aab", "0 3, 2 3"}, {"(a+|b){2,}", "aaa", "0 3, 2 3"}, {"(a+|b){3,}", "aab", "0 3, 2 3"}, {"(a|aa){2}", "aaa", "0 3, 2 3"}, {"(a|aa){3}", "aaaa", "0 4, 3 4"}, {"(a|aaa){3}", "aaaaa", "0 5, 4 5"}, {"(a{1,3}){2}", "aaaa", "0 4, 3 4"}, {"(a|b|bc|c){2}(d)", "abcd", "0 4, 1 3, 3 4"}, {"(a*){2,}", "aab", "0 2, 2 2"}, {"(a*){1,}", "aab", "0 2, 0 2"}, {"(a*){1,4}", "aab", "0 2, 0 2"}, {"(a*){0,4}", "b", "0 0, 0 0"}, {"(a?){0,4}", "aa", "0 2, 1 2"}, {"(a?){4}", "aa", "0 2, 2 2"},
		{"(^|a){2}", "a", "0 1, 0 1"}, {"(^|a){2}", "aa", "0 2, 1 2"}, {"(^|a){3}", "aa", "0 2, 1 2"}, {"((^)|a){3}", "aa", "0 2, 1 2, -"}, {"(^|a){4,}", "aa", "0 2, 1 2"}, {"((^)|a){4,6}b", "aab", "0 3, 1 2, -"}, {"(a|$){4}", "aa", "0 2, 2 2"}, {"(a|($)){2}", "aa", "0 2, 1 2, -"}, {"(a|($)){2}", "ba", "1 2, 2 2, 2 2"}, {"(a|($)){3,}", "aa", "0 2, 2 2, 2 2"}, {"(a|($))*", "aa", "0 2, 1 2, -"}, {"(^|$)*", "", "0 0, 0 0"}, {"(^|$)*a", "a", "0 1, 0 0"}, {"(^)*", "a", "0 0, 0 0"}, {"(^){3}a", "a", "0 1, 0 0"}, {"b(^)*", "b", "0 1, -"}, {"b($)*", "b", "0 1, 1 1"}, {"b(^|c)*(^)?", "b", "0 1, -, -"},
		{"((a)*b)*", "aabb", "0 4, 3 4, -"}, {"((a)*b)*", "abab", "0 4, 2 4, 2 3"}, {"((a|b)*c)*", "abcbc", "0 5, 3 5, 3 4"}, {"((a)?(b)?)*", "abb", "0 3, 2 3, -, 2 3"}, {"((a*)*)*", "aa", "0 2, 0 2, 0 2"}, {"((a)**)", "aa", "0 2, 0 2, 1 2"}, {"((a){2})*", "aaaa", "0 4, 2 4, 3 4"}, {"((a){0})*", "a", "0 0, 0 0, -"}, {"((a){0}){3}", "a", "0 0, 0 0, -"}, {"((a){1,2}b){1,2}", "aabab", "0 5, 3 5, 3 4"}, {"(a)*(b)*(a)*", "aabba", "0 5, 1 2, 3 4, 4 5"}, {"((a)|(b)){2,3}c", "abbc", "0 4, 2 3, -, 2 3"}, {"(((a)|b)*c){2}", "abcbc", "0 5, 3 5, 3 4, -"},
	} {
		wantRow(t, row, extended)
	}
}

// TestP11_1Errors: what nfa.Build refuses.
func TestP11_1Errors(t *testing.T) {
	heavy := map[bool]string{basic: `\(\(a\)\{63\}\)\{64\}`, extended: "((a){63}){64}"}
	for ext, text := range heavy {
		want := api.Fault{Code: api.CodeStates, Lang: api.LangBre}
		if ext {
			want.Lang = api.LangEre
		}
		one := try(t, text, ext)
		for _, from := range []int{0, 1, -1, 9} {
			wantRefused(t, one.r, "aa", from, want)
			wantParse(t, one, strings.Repeat("a", 63*64), 0, 63*64, nil)
		}
	}
	long := strings.Repeat("a", 4000)
	wantFind(t, try(t, "((a){63}){63}a{30}", extended), long, 0, spansOf("0 3999, 3906 3969, 3968 3969"))
	wantRefused(t, try(t, "((a){63}){63}a{31}", extended).r, long, 0, api.Fault{Code: api.CodeStates, Lang: api.LangEre})
}

// TestP11_2: matches from one place to another, be they the longest or not.
func TestP11_2(t *testing.T) {
	for _, row := range []struct {
		text, s string
		i, j    int
		want    string
	}{
		{"(a*)(a*)", "aaa", 0, 2, "0 2, 0 2, 2 2"}, {"(a*)(a*)", "aaa", 1, 2, "1 2, 1 2, 2 2"}, {"(a*)(a*)", "aaa", 2, 2, "2 2, 2 2, 2 2"}, {"(a*)(a*)", "aab", 1, 3, ""}, {"(a)|ab", "ab", 0, 2, "0 2, -"}, {"(a)|ab", "ab", 0, 1, "0 1, 0 1"}, {"a", "aa", 0, 2, ""}, {"a", "aa", 1, 2, "1 2"}, {"a", "aa", 1, 1, ""}, {"b", "aa", 1, 2, ""}, {"^(a)", "aa", 0, 1, "0 1, 0 1"}, {"^(a)", "aa", 1, 2, ""}, {"(a)$", "aa", 0, 1, ""}, {"(a)$", "aa", 1, 2, "1 2, 1 2"}, {"(a)*", "aaa", 1, 1, "1 1, -"}, {"(a)*", "aaa", 0, 2, "0 2, 1 2"}, {"(a*)*", "aaa", 1, 1, "1 1, 1 1"}, {"($|a)*", "aa", 1, 1, "1 1, -"}, {"($|a)*", "aa", 2, 2, "2 2, 2 2"}, {"(a|b){2}", "aba", 1, 3, "1 3, 2 3"}, {"(.*)(b?)", "ab", 0, 2, "0 2, 0 2, 2 2"}, {"(.*)(b)", "abb", 0, 2, "0 2, 0 1, 1 2"}, {"a{0}", "ab", 1, 1, "1 1"}, {"(a){0}", "ab", 2, 2, "2 2, -"},
	} {
		wantParse(t, try(t, row.text, extended), row.s, row.i, row.j, spansOf(row.want))
	}
}

// TestP11_2Places: a stretch that is none.
func TestP11_2Places(t *testing.T) {
	for _, text := range []string{"(a)*", "a*", "(.*)", "(^|$)*"} {
		one := try(t, text, extended)
		for _, s := range []string{"", "aaa"} {
			for _, place := range []int{-1, math.MinInt, len(s) + 1, math.MaxInt, 1 << 32} {
				wantParse(t, one, s, place, place, nil)
				wantParse(t, one, s, 0, place, nil)
				wantParse(t, one, s, place, len(s), nil)
			}
		}
		wantParse(t, one, "aaa", 2, 1, nil)
		wantParse(t, one, "aaa", 3, 0, nil)
	}
	if got, ok := span.Parse(try(t, "a*", extended).r, []byte("aaaa")[:2], 0, 3); got != nil || ok { // what lies behind the length is no place, either
		t.Error("behind the length:", got)
	}
}

// TestNil: an expression that is none.
func TestNil(t *testing.T) {
	for _, r := range []*retext.Re{nil, new(retext.Re)} {
		for _, s := range []string{"", "a"} {
			wantRefused(t, r, s, 0, api.Fault{Code: api.CodeArg})
			wantRefused(t, r, s, -1, api.Fault{Code: api.CodeArg})
			if got, ok := span.Parse(r, []byte(s), 0, 0); got != nil || ok {
				t.Errorf("Parse(nil, %q): %v, %v", s, got, ok)
			}
		}
	}
	wantFind(t, try(t, "(a*)", extended), "", 0, spansOf("0 0, 0 0"))
	if got, ok, err := span.Find(try(t, "(a*)", extended).r, nil, 0); !slices.Equal(got, spansOf("0 0, 0 0")) || !ok || err != nil {
		t.Error("Find in nil:", got, ok, err)
	}
}

// TestExamples: the chapter's.
func TestExamples(t *testing.T) {
	for _, row := range [][3]string{
		{"(a*)(ab)*(b*)", "abb", "0 3, 0 1, -, 1 3"}, {"(a|ab)(c|bcd)(d*)", "abcd", "0 4, 0 2, 2 3, 3 4"}, {"(a*)*", "b", "0 0, 0 0"}, {"(a*)+", "b", "0 0, 0 0"}, {"(a|(b))*", "ba", "0 2, 1 2, -"}, {"(a*){2}", "aa", "0 2, 2 2"}, {"(x{0}|a)b", "ab", "0 2, 0 1"},
	} {
		wantRow(t, row, extended)
	}
}

// TestKept: nothing that is handed in is changed or kept, and answers are new.
func TestKept(t *testing.T) {
	one := try(t, "(a|(b))*(c?)", extended)
	s := []byte("xabbac")
	first, _, _ := span.Find(one.r, s, 1)
	second, _, _ := span.Find(one.r, s, 1)
	third, _ := span.Parse(one.r, s, 1, 6)
	want := spansOf("1 6, 4 5, -, 5 6")
	clear(first)
	first = append(first, api.Span{})
	if !slices.Equal(second, want) || !slices.Equal(third, want) || string(s) != "xabbac" {
		t.Errorf("%v, %v, %q", second, third, s)
	}
	clear(s)
	if !slices.Equal(second, want) || !slices.Equal(third, want) || one.r.Text() != try(t, one.text, extended).r.Text() {
		t.Errorf("%v, %v, %s", second, third, one.r.Text())
	}
}

// TestMany: many at one time.
func TestMany(t *testing.T) {
	one := try(t, "(a|(b)){2,}(c*)", extended)
	var all sync.WaitGroup
	for range 8 {
		all.Go(func() {
			for range 50 {
				wantFind(t, one, "cababcc", 0, spansOf("1 7, 4 5, 4 5, 5 7"))
			}
		})
	}
	all.Wait()
}

// TestLong: long subjects and heavy expressions take no time that counts, whatever must be tried.
func TestLong(t *testing.T) {
	t.Parallel()
	long := strings.Repeat("ab", 50000)
	for _, row := range [][3]string{
		{"(a|b)*", long, "0 100000, 99999 100000"}, {"(.|(..)*z)*", long, "0 100000, 99999 100000, -"}, {"(.|.*z)*(b)", long, "0 100000, 99998 99999, 99999 100000"}, {"(.*)(.*)", long, "0 100000, 0 100000, 100000 100000"}, {"((ab)*)(a|b)*", long, "0 100000, 0 100000, 99998 100000, -"}, {"(ab){2,}c|((a)|b)*", long, "0 100000, -, 99999 100000, -"},
		{"(.*){255}", long[:1000], "0 1000, 1000 1000"}, {"(a|b){255}", long, "0 255, 254 255"}, {"(([ab]){60}){60}", long, "0 3600, 3540 3600, 3599 3600"}, {"((a?|b){0,50}){15}", long[:1000], "0 750, 700 750, 749 750"}, {"(a)" + strings.Repeat("*", 250), strings.Repeat("a", 1000), "0 1000, 999 1000"}, {strings.Repeat("(", 9) + "a" + strings.Repeat("*)*", 9), strings.Repeat("a", 1000), strings.Repeat("0 1000, ", 9) + "0 1000"},
	} {
		wantRow(t, row, extended)
	}
	wantFind(t, try(t, "(a)(b)", extended), long, 99998, spansOf("99998 100000, 99998 99999, 99999 100000"))
}

// TestReadme: what README.md says.
func TestReadme(t *testing.T) {
	one := try(t, "(a|(b))+(c?)", extended)
	wantFind(t, one, "xabx", 0, spansOf("1 3, 2 3, 2 3, 3 3"))
	wantFind(t, one, "xabx", 3, nil)
	wantParse(t, one, "xabx", 1, 2, spansOf("1 2, 1 2, -, 2 2"))
	wantParse(t, one, "xabx", 0, 2, nil)
}
