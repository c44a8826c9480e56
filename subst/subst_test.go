package subst_test

import (
	"math"
	"slices"
	"strconv"
	"strings"
	"sync"
	"testing"

	"pidgin/api"
	"pidgin/fault"
	"pidgin/retext"
	"pidgin/subst"
)

// TestP13_1: what a template is read as.
func TestP13_1(t *testing.T) {
	for text, want := range map[string]string{
		"": "", "a": `"61"`, "&": "&", "ab": `"6162"`, "&&": "& &", "a&b": `"61" & "62"`, "&a": `& "61"`, "a&": `"61" &`,
		`\0`: "&", `\1`: `\1`, `\9`: `\9`, `\1\2`: `\1 \2`, `\12`: `\1 "32"`, `\01`: `& "31"`, `a\1b`: `"61" \1 "62"`, `\1&\0`: `\1 & &`, "0": `"30"`, "1&2": `"31" & "32"`, `\10`: `\1 "30"`,
		`\n`: `"0a"`, "\n": `"0a"`, "\\\n": `"0a"`, `a\nb`: `"610a62"`, `\nn`: `"0a6e"`, `\n\n`: `"0a0a"`, `\n&`: `"0a" &`,
		`\&`: `"26"`, `\\`: `"5c"`, `\\\\`: `"5c5c"`, `\\&`: `"5c" &`, `\\\&`: `"5c26"`, `\&&`: `"26" &`, `&\&`: `& "26"`, `\\1`: `"5c31"`, `\\\1`: `"5c" \1`, `\\n`: `"5c6e"`, `\\\n`: `"5c0a"`,
		`\a`: `"61"`, `\N`: `"4e"`, `\/`: `"2f"`, `\ `: `"20"`, `\"`: `"22"`, `"a"`: `"226122"`, `\t`: `"74"`, `\x41`: `"783431"`, `\(\1\)`: `"28" \1 "29"`, `[\2&]`: `"5b" \2 & "5d"`,
		"\x00": `"00"`, "\\\x00": `"00"`, "\xff": `"ff"`, "\\\xff": `"ff"`, "日": `"e697a5"`, "\\日": `"e697a5"`, "\r\t": `"0d09"`,
	} {
		wantText(t, text, 9, want)
	}
}

// TestP13_1Bytes: each byte alone, behind a backslash, and among others.
func TestP13_1Bytes(t *testing.T) {
	for b := range 256 {
		text, digits := string([]byte{byte(b)}), strconv.FormatInt(0x100+int64(b), 16)[1:]
		alone, escaped := digits, digits
		switch {
		case text == "&":
			wantText(t, "a&a", 0, `"61" & "61"`)
			alone = ""
		case text == `\`:
			wantRefused(t, text, 0, sed(api.CodeEscape, 0))
			alone = ""
		case text == "0":
			wantText(t, `a\0a`, 0, `"61" & "61"`)
			escaped = ""
		case text >= "1" && text <= "9" && len(text) == 1:
			wantText(t, `a\`+text+"a", b-'0', `"61" \`+text+` "61"`)
			wantRefused(t, `a\`+text+"a", b-'0'-1, sed(api.CodeGroup, 1))
			escaped = ""
		case text == "n":
			escaped = "0a"
		}
		if alone != "" {
			wantText(t, text, 0, `"`+alone+`"`)
			wantText(t, "&"+text+text+"&", 0, `& "`+alone+alone+`" &`)
		}
		if escaped != "" {
			wantText(t, `\`+text, 0, `"`+escaped+`"`)
			wantText(t, "x"+`\`+text+`\`+text+"x&", 0, `"78`+escaped+escaped+`78" &`)
		}
	}
}

// TestP13_1Groups: a group may be named just if there is one.
func TestP13_1Groups(t *testing.T) {
	for groups := range api.MaxGroups + 1 {
		for group := range 10 {
			text := "a&" + `\` + strconv.Itoa(group)
			switch {
			case group == 0:
				wantText(t, text, groups, `"61" & &`)
			case group <= groups:
				wantText(t, text, groups, `"61" & \`+strconv.Itoa(group))
			default:
				wantRefused(t, text, groups, sed(api.CodeGroup, 2))
				wantRefused(t, text+`\`, groups, sed(api.CodeGroup, 2))
				wantText(t, "a&"+`\\`+strconv.Itoa(group), groups, `"61" & "5c3`+strconv.Itoa(group)+`"`)
			}
		}
	}
}

// TestP13_1Faults: what is refused, and where; of several faults the first.
func TestP13_1Faults(t *testing.T) {
	for _, c := range []struct {
		text              string
		groups, code, pos int
	}{
		{`\`, 0, api.CodeEscape, 0}, {`a\`, 0, api.CodeEscape, 1}, {`\\\`, 9, api.CodeEscape, 2}, {`&&\`, 0, api.CodeEscape, 2}, {`\0\`, 0, api.CodeEscape, 2}, {`\n\`, 0, api.CodeEscape, 2}, {`\1\`, 1, api.CodeEscape, 2}, {"\n\n\\", 0, api.CodeEscape, 2},
		{`\1`, 0, api.CodeGroup, 0}, {`\9`, 8, api.CodeGroup, 0}, {`a\2b`, 1, api.CodeGroup, 1}, {`\1\2\3`, 2, api.CodeGroup, 4}, {`\1\3\2`, 1, api.CodeGroup, 2}, {`\\\1`, 0, api.CodeGroup, 2}, {`\1\`, 0, api.CodeGroup, 0}, {`\5\1\`, 4, api.CodeGroup, 0}, {`\&\7`, 6, api.CodeGroup, 2}, {`&\0\2`, 1, api.CodeGroup, 3},
	} {
		wantRefused(t, c.text, c.groups, sed(c.code, c.pos))
	}
}

// TestP13_1Args: as many groups as an expression may have, and as many bytes as a script.
func TestP13_1Args(t *testing.T) {
	for _, groups := range []int{-1, -2, 10, 11, 256, 257, 1 << 32, math.MaxInt, math.MinInt} {
		for _, text := range []string{"", "a", "&", `\1`, `\0`, `\`, `a\`, strings.Repeat("a", 4097)} {
			wantRefused(t, text, groups, sed(api.CodeArg, 0))
		}
	}
	for _, unit := range []string{"a", "&", "ab", `\1`, `\n`, `\\`, "\x00", "a&", "\xff\xfe"} {
		full := strings.Repeat(unit, api.MaxSed/len(unit))
		words, _ := wordsOf(full, 1)
		wantText(t, full, 1, textOf(words))
		for _, more := range []string{"a", "&", `\`, `\9`, full} {
			wantRefused(t, full+more, 1, sed(api.CodeLong, 0))
			wantRefused(t, more+full, 1, sed(api.CodeLong, 0))
		}
	}
	most := strings.Repeat("a", api.MaxSed-1)
	wantRefused(t, most+`\`, 0, sed(api.CodeEscape, 4095))
	wantRefused(t, most[1:]+`\1`, 0, sed(api.CodeGroup, 4094))
	wantRefused(t, most+`\1`, 0, sed(api.CodeLong, 0))
	wantRefused(t, strings.Repeat(`\`, 4097), 0, sed(api.CodeLong, 0))
	wantRefused(t, strings.Repeat("&", 1<<20), 0, sed(api.CodeLong, 0))
}

// TestP13_2: bytes that stand side by side are one piece, however they are written.
func TestP13_2(t *testing.T) {
	for text, want := range map[string]string{
		`a\bc`: `"616263"`, `a\nb\\c\&d`: `"610a625c632664"`, `\a\b\c`: `"616263"`, `a&b&c`: `"61" & "62" & "63"`, `a\1\2b\n&\0c`: `"61" \1 \2 "620a" & & "63"`, `& &`: `& "20" &`, `""`: `"2222"`, "\x0f\xf0\xab": `"0ff0ab"`,
	} {
		wantText(t, text, 2, want)
	}
	if got := parse(t, "", 0); got.Text() != "" {
		t.Errorf("of nothing: %q", got.Text())
	}
}

// TestP13_3: the pieces of the match and of the groups are put in.
func TestP13_3(t *testing.T) {
	for _, c := range []struct{ text, s, spans, want string }{
		{"x", "abcdef", "1 3", "x"}, {"", "abcdef", "1 3", ""}, {"&", "abcdef", "1 3", "bc"}, {`\0&\0`, "abcdef", "1 3", "bcbcbc"}, {"[&]", "abcdef", "0 6", "[abcdef]"}, {"[&]", "abcdef", "3 3", "[]"}, {"[&]", "abcdef", "6 6", "[]"}, {"[&]", "abcdef", "0 0", "[]"}, {`\&`, "abcdef", "1 3", "&"}, {"[&]", "", "0 0", "[]"},
		{`\1`, "abcdef", "1 3, 2 3", "c"}, {`\2\1`, "abcdef", "1 3, 2 3, 1 2", "bc"}, {`\9`, "abcdefghij", "0 9, 0 1, 1 2, 2 3, 3 4, 4 5, 5 6, 6 7, 7 8, 8 9", "i"}, {`<\1\n\2>`, "abcdef", "0 6, 0 3, 3 6", "<abc\ndef>"}, {`\1`, "abcdef", "2 3, 0 6", "abcdef"}, {`\3`, "abcdef", "0 6, 0 1, 1 2, 2 2", ""},
		{`[\1]`, "abcdef", "1 3, -", "[]"}, {`[&]`, "abcdef", "-, 1 2", "[]"}, {`[\1\2]`, "abcdef", "1 3, -, 1 2", "[b]"}, {`[\1]`, "abcdef", "1 3", "[]"}, {`[\9&]`, "abcdef", "1 3, 1 2, 2 3", "[bc]"},
		{"[&]", "abcdef", "0 7", "[]"}, {"[&]", "abcdef", "6 7", "[]"}, {"[&]", "abcdef", "-1 3", "[]"}, {"[&]", "abcdef", "3 1", "[]"}, {"[&]", "abcdef", "7 7", "[]"}, {"[&]", "abcdef", "3 -1", "[]"}, {"[&]", "abcdef", "-2 -2", "[]"}, {"[&]", "abcdef", "-3 -1", "[]"}, {`[\1&]`, "abcdef", "5 6, 5 7", "[f]"}, {"[&]", "", "0 1", "[]"},
		{"[&]", "abcdef", "0 9223372036854775807", "[]"}, {"[&]", "abcdef", "-9223372036854775808 3", "[]"}, {"[&]", "abcdef", "-9223372036854775808 9223372036854775807", "[]"}, {"[&]", "abcdef", "9223372036854775807 9223372036854775807", "[]"}, {"[&]", "abcdef", "9223372036854775807 -9223372036854775808", "[]"},
		{"&", "\x00\xff\n", "0 3", "\x00\xff\n"}, {"\x00&\xff", "\x80", "0 1", "\x00\x80\xff"},
	} {
		wantApplied(t, c.text, c.s, spansOf(c.spans), c.want)
	}
	for _, spans := range [][]api.Span{nil, {}} {
		wantApplied(t, `[&\1\9]`, "abc", spans, "[]")
	}
}

// TestP13_3Cut: no more than MaxSpace bytes are told.
func TestP13_3Cut(t *testing.T) {
	thousand := strings.Repeat("abcdefghij", 100)
	whole := []api.Span{{Start: 0, End: 1000}, {Start: 0, End: 97}}
	for _, text := range []string{"&&&&", "&&&&&", "x&&&&&", `&&&&\1`, `&&&&\1z`, `&&&&\1&`, `x&y&z&\1&&`, strings.Repeat("z", 4096), strings.Repeat("z", 4095) + "&", strings.Repeat("z", 4094) + `\1`, strings.Repeat("&", 4096), strings.Repeat(`\1`, 42), strings.Repeat(`\1`, 43), strings.Repeat(`\n`, 2048)} {
		words, _ := wordsOf(text, 9)
		wantApplied(t, text, thousand, whole, applied(words, thousand, whole))
	}
	long := strings.Repeat("0123456789abcdef", 300)
	for end := 4090; end <= 4100; end++ {
		for _, text := range []string{"&", "x&", "&x", "x&x", "xyz&", "&&"} {
			want := strings.ReplaceAll(text, "&", long[:end])
			wantApplied(t, text, long, []api.Span{{Start: 0, End: end}}, want[:min(len(want), 4096)])
		}
	}
	wantApplied(t, "&", strings.Repeat("a", 1<<20), []api.Span{{Start: 0, End: 1 << 20}}, strings.Repeat("a", 4096))
}

// TestP13_4: all matches, from the left.
func TestP13_4(t *testing.T) {
	for text, want := range map[string]string{ // a subject, and the matches
		"a": "bab 1 2", "ab": "abxab 0 2; 3 5", "a*": "baac 0 0; 1 3; 4 4", "a+": "baaca 1 3; 4 5", "c": "abab", "aa": "aaaaa 0 2; 2 4", "a|aa": "aaa 0 2; 2 3", ".": "abc 0 1; 1 2; 2 3", ".*": "abc 0 3", "(.)": "ab 0 1, 0 1; 1 2, 1 2",
		"a?": "aab 0 1; 1 2; 3 3", "x*": "ab 0 0; 1 1; 2 2", "b*": "abb 0 0; 1 3", "a*b*": "abba 0 3; 3 4", "(a)|b": "ab 0 1, 0 1; 1 2, -", "(a)(b)*": "abaab 0 2, 0 1, 1 2; 2 3, 2 3, -; 3 5, 3 4, 4 5", "(a|(b))*": "bac 0 2, 1 2, -; 3 3, -, -",
		"^": "ab 0 0", "$": "ab 2 2", "^a": "aa 0 1", "^a*": "aab 0 2", "a$": "aa 1 2", "^$": "a", "a*$": "aba 2 3", "^|$": "ab 0 0; 2 2", "^|a": "aa 0 1; 1 2", "^|b": "ab 0 0; 1 2", "a|$": "ba 1 2", "b|$": "ba 0 1; 2 2", "(^|b)a": "aabaa 0 1, 0 0; 2 4, 2 3", "$^": "a", "x|^": "ab 0 0", "^.": "ab 0 1", ".$|^": "ab 0 0; 1 2",
		"a{0}": "ab 0 0; 1 1; 2 2", "a{0}|b": "ab 0 0; 1 2", "(a|b){2}": "ababa 0 2, 1 2; 2 4, 3 4", "[^,]*": "a,,bc, 0 1; 2 2; 3 5; 6 6", "\xff": "\xff\x00\xff 0 1; 2 3", "\n": "a\n\nb 1 2; 2 3",
	} {
		s, spans, _ := strings.Cut(want, " ")
		wantMatches(t, try(t, text, extended), s, matchesOf(spans))
	}
	for _, text := range []string{"^", "$", "^$", "$^", "a*", "a{0}"} {
		wantMatches(t, try(t, text, extended), "", matchesOf("0 0"))
	}
	for _, text := range []string{"a", "a+", "^a", ".", "$a"} {
		wantMatches(t, try(t, text, extended), "", nil)
	}
	wantMatches(t, try(t, `\(a\)\(b\)*`, basic), "abxa", matchesOf("0 2, 0 1, 1 2; 3 4, 3 4, -"))
	wantMatches(t, try(t, `a\{2\}`, basic), "aaaaa", matchesOf("0 2; 2 4"))
	wantMatches(t, try(t, `(((((((((a)))))))))`, extended), "ba", matchesOf("1 2, 1 2, 1 2, 1 2, 1 2, 1 2, 1 2, 1 2, 1 2, 1 2"))
}

// refused tells expressions that have no automaton, and what is told of them.
func refused(t *testing.T) map[*retext.Re]api.Fault {
	t.Helper()
	return map[*retext.Re]api.Fault{
		nil:                                    {Code: api.CodeArg},
		new(retext.Re):                         {Code: api.CodeArg},
		try(t, "(a{255}){255}", extended):      {Code: api.CodeStates, Lang: api.LangEre},
		try(t, `\(a\{255\}\)\{255\}`, basic):   {Code: api.CodeStates, Lang: api.LangBre},
		try(t, `(x{255}){15}.{175}`, extended): {Code: api.CodeStates, Lang: api.LangEre},
	}
}

// TestP13_4Refused: an expression without an automaton is refused as nfa.Build does it, whatever the subject is.
func TestP13_4Refused(t *testing.T) {
	for r, want := range refused(t) {
		for _, s := range []string{"", "a", "aaaa", strings.Repeat("a", 5000)} {
			if all, err := subst.Matches(r, []byte(s)); all != nil || fault.Tell(err) != want {
				t.Errorf("Matches(%.100s, %.100q): %v, %s, want %s", r.Text(), s, all, faultText(err), fault.Text(want))
			}
		}
	}
	heavy := try(t, "(x{255}){15}.{174}", extended) // just not too heavy
	wantMatches(t, heavy, "xxx", nil)
}

// TestP13_4Long: longer subjects, which have no bound here.
func TestP13_4Long(t *testing.T) {
	const times = 3000
	var want [][]api.Span
	for i := range times {
		want = append(want, []api.Span{{Start: 3 * i, End: 3*i + 2}, {Start: 3*i + 1, End: 3*i + 2}})
	}
	wantMatches(t, try(t, "a(b)", extended), strings.Repeat("abx", times), want)
	long := strings.Repeat("a", 1<<18)
	wantMatches(t, try(t, "a*", extended), long, [][]api.Span{{{Start: 0, End: 1 << 18}}})
	wantMatches(t, try(t, "b", extended), long, nil)
	wantMatches(t, try(t, "a{255}$", extended), long, [][]api.Span{{{Start: 1<<18 - 255, End: 1 << 18}}})
	want = nil
	for at := range times + 1 {
		want = append(want, []api.Span{{Start: at, End: at}, missing})
	}
	wantMatches(t, try(t, "(x)*", extended), long[:times], want)
}

// TestP13_5: which matches are replaced, and what stays.
func TestP13_5(t *testing.T) {
	for _, c := range []struct {
		text, template, s string
		nth               int
		all               bool
		want              string
		count             int
	}{
		{"a", "x", "banana", 1, false, "bxnana", 1}, {"a", "x", "banana", 2, false, "banxna", 1}, {"a", "x", "banana", 3, false, "bananx", 1}, {"a", "x", "banana", 4, false, "banana", 0}, {"a", "x", "banana", math.MaxInt, false, "banana", 0},
		{"a", "x", "banana", 1, true, "bxnxnx", 3}, {"a", "x", "banana", 2, true, "banxnx", 2}, {"a", "x", "banana", 3, true, "bananx", 1}, {"a", "x", "banana", 4, true, "banana", 0}, {"a", "x", "banana", math.MaxInt, true, "banana", 0},
		{"a", "", "banana", 1, true, "bnn", 3}, {"a", "", "aaa", 1, true, "", 3}, {"a", "", "aaa", 2, true, "a", 2}, {"a", "", "aaa", 2, false, "aa", 1}, {".*", "", "abc", 1, false, "", 1}, {"a", "&&", "aba", 1, true, "aabaa", 2}, {"c", "x", "aba", 1, true, "aba", 0}, {"c", "x", "", 1, true, "", 0},
		{"a*", "x", "baac", 1, true, "xbxcx", 3}, {"a*", "x", "baac", 1, false, "xbaac", 1}, {"a*", "x", "baac", 2, false, "bxc", 1}, {"a*", "x", "baac", 3, false, "baacx", 1}, {"a*", "x", "baac", 2, true, "bxcx", 2}, {"a*", "x", "baac", 4, true, "baac", 0}, {"x*", "-", "abc", 1, true, "-a-b-c-", 4}, {"x*", "-", "abc", 3, false, "ab-c", 1}, {"b*", "x", "abc", 1, true, "xaxcx", 3},
		{"^", "x", "ab", 1, true, "xab", 1}, {"$", "x", "ab", 1, true, "abx", 1}, {"^", "x", "", 1, true, "x", 1}, {"$", "x", "", 1, false, "x", 1}, {"^a", "x", "aa", 1, true, "xa", 1}, {"^a", "x", "aa", 2, true, "aa", 0}, {"^|$", "x", "ab", 1, true, "xabx", 2}, {"^|a", "x", "aa", 1, true, "xx", 2}, {"^|b", "x", "ab", 1, true, "xax", 2},
		{"(a)(b)*", `[\2&\1]`, "abaab", 1, true, "[baba][aa][baba]", 3}, {"(a)|(b)", `<\1,\2>`, "ab", 1, true, "<a,><,b>", 2}, {"(.)(.)", `\2\1`, "abcde", 1, true, "badce", 2}, {"(.)(.)", `\2\1`, "abcde", 2, false, "abdce", 1}, {"a", `\1\9x`, "ba", 1, true, "bx", 1}, {"b", `\n`, "abc", 1, true, "a\nc", 1}, {"b", `\&`, "abc", 1, true, "a&c", 1}, {"\n", ",", "a\nb\n", 1, true, "a,b,", 2},
	} {
		wantReplaced(t, try(t, c.text, extended), parse(t, c.template, 9), c.s, c.nth, c.all, c.want, c.count)
	}
}

// TestP13_5Args: a number below 1, no template and an expression without an automaton are refused; the expression first.
func TestP13_5Args(t *testing.T) {
	r, template := try(t, "a", extended), parse(t, "x", 0)
	long := strings.Repeat("b", 5000)
	for _, all := range []bool{false, true} {
		for _, s := range []string{"", "a", "b", long} {
			for _, nth := range []int{0, -1, math.MinInt} {
				wantNot(t, r, template, s, nth, all, sed(api.CodeArg, 0))
				wantNot(t, r, nil, s, nth, all, sed(api.CodeArg, 0))
			}
			wantNot(t, r, nil, s, 1, all, sed(api.CodeArg, 0))
			wantNot(t, r, nil, s, 7, all, sed(api.CodeArg, 0))
			for r, want := range refused(t) {
				for _, nth := range []int{-1, 0, 1, 2, math.MaxInt} {
					wantNot(t, r, template, s, nth, all, want)
					wantNot(t, r, nil, s, nth, all, want)
				}
			}
		}
	}
}

// TestP13_5Full: as many bytes as fit are told; one more, and it is refused, wherever it stands.
func TestP13_5Full(t *testing.T) {
	a, x := try(t, "a", extended), parse(t, "x", 0)
	full := sed(api.CodeFull, 0)
	for length := 4090; length <= 4100; length++ {
		for _, c := range []struct{ text, template, s string }{
			{"a", "x", strings.Repeat("b", length)}, {"a", "x", strings.Repeat("a", length)}, {"a", "xyz", strings.Repeat("b", length-3) + "a"}, {"a", "xyz", "a" + strings.Repeat("b", length-3)}, {"a", "", strings.Repeat("b", length) + "a"}, {"a", "&&", strings.Repeat("b", length-4) + "aba"}, {"b*", "&", strings.Repeat("b", length)}, {"$", "xyz", strings.Repeat("b", length-3)}, {"^", "xyz", strings.Repeat("b", length-3)},
		} {
			words, _ := wordsOf(c.template, 0)
			r := try(t, c.text, extended)
			matches, _ := subst.Matches(r, []byte(c.s))
			if want, count, why := replacedIn(matches, words, c.s, 1, true); why != (api.Fault{}) {
				wantNot(t, r, parse(t, c.template, 0), c.s, 1, true, why)
			} else {
				wantReplaced(t, r, parse(t, c.template, 0), c.s, 1, true, want, count)
			}
		}
	}
	most := strings.Repeat("b", 4096)
	wantReplaced(t, a, x, most, 1, true, most, 0)
	wantNot(t, a, x, most+"b", 1, true, full)
	wantNot(t, a, x, most+"b", 9, false, full)
	wantNot(t, a, x, most+"a", 1, false, full)
	wantNot(t, a, x, strings.Repeat("b", 1<<20), 1, true, full)
	wantNot(t, a, x, "a"+most+"a", 2, false, full)
	wantReplaced(t, a, parse(t, "", 0), "a"+most+"a", 1, true, most, 2)
	wantNot(t, a, parse(t, "", 0), "a"+most+"a", 1, false, full)
	wantReplaced(t, try(t, "(b{10}){100}", extended), x, most, 1, true, "xxxx"+most[4000:], 4)
	wantReplaced(t, try(t, ".*", extended), x, strings.Repeat(most, 100), 1, true, "x", 1)
	wantReplaced(t, try(t, ".*", extended), parse(t, "&", 0), most, 1, true, most, 1)
	wantReplaced(t, a, parse(t, "", 0), strings.Repeat("a", 20000), 1, true, "", 20000)
	wantNot(t, a, parse(t, "aa", 0), strings.Repeat("a", 2049), 1, true, full)
	wantReplaced(t, a, parse(t, "aa", 0), strings.Repeat("a", 2048), 1, true, strings.Repeat("a", 4096), 2048)
}

// TestP13_5Cut: what Apply cuts off is not there any more: it fills the room, and does not go beyond it.
func TestP13_5Cut(t *testing.T) {
	s, a, two := strings.Repeat("a", 3000), try(t, "a+", extended), parse(t, "&&", 0)
	wantReplaced(t, a, two, s, 1, true, strings.Repeat("a", 4096), 1)
	wantReplaced(t, try(t, "b|a+", extended), parse(t, `&&\1`, 1), s, 1, false, strings.Repeat("a", 4096), 1)
	wantReplaced(t, try(t, "a+|$", extended), two, s, 1, true, strings.Repeat("a", 4096), 1)
	wantNot(t, a, two, s+"b", 1, true, sed(api.CodeFull, 0))
	wantNot(t, a, two, "b"+s, 1, true, sed(api.CodeFull, 0))
	wantNot(t, a, two, "ab"+s, 2, false, sed(api.CodeFull, 0))
}

// TestExamples: what the document shows.
func TestExamples(t *testing.T) {
	wantReplaced(t, try(t, "a*", extended), parse(t, "x", 0), "baac", 1, true, "xbxcx", 3)
	wantReplaced(t, try(t, "a*", basic), parse(t, "x", 0), "baac", 1, true, "xbxcx", 3)
	wantReplaced(t, try(t, `\(b\)\(c\)*`, basic), parse(t, `[\2&]`, 2), "abd", 1, false, "a[b]d", 1)
	wantRefused(t, `\2`, 1, sed(api.CodeGroup, 0))
	wantRefused(t, `a\`, 0, sed(api.CodeEscape, 1))
}

// TestReadme: what README.md shows.
func TestReadme(t *testing.T) {
	r, made := try(t, "(a)(b)?", extended), parse(t, `<\2,&>\n`, 2)
	if got := made.Text(); got != `"3c" \2 "2c" & "3e0a"` {
		t.Error("Text:", got)
	}
	wantMatches(t, r, "xabya", matchesOf("1 3, 1 2, 2 3; 4 5, 4 5, -"))
	wantApplied(t, `<\2,&>\n`, "xabya", matchesOf("1 3, 1 2, 2 3")[0], "<b,ab>\n")
	wantReplaced(t, r, made, "xabya", 2, false, "xaby<,a>\n", 1)
	wantReplaced(t, r, made, "xabya", 1, true, "x<b,ab>\ny<,a>\n", 2)
	wantRefused(t, `a\3`, 2, sed(api.CodeGroup, 1))
}

// TestNil: a template that is none tells nothing; one that was not read is one of no pieces.
func TestNil(t *testing.T) {
	var none *subst.Template
	s, spans := []byte("abc"), []api.Span{{Start: 0, End: 3}}
	for _, made := range []*subst.Template{none, new(subst.Template)} {
		if made.Text() != "" || len(made.Apply(s, spans)) > 0 || len(made.Apply(nil, nil)) > 0 {
			t.Error(made.Text(), made.Apply(s, spans))
		}
	}
	wantNot(t, try(t, "a", extended), nil, "abc", 1, true, sed(api.CodeArg, 0))
	wantNot(t, nil, nil, "abc", 1, true, api.Fault{Code: api.CodeArg})
	wantNot(t, nil, parse(t, "x", 0), "abc", 0, false, api.Fault{Code: api.CodeArg})
	if all, err := subst.Matches(nil, nil); all != nil || fault.Tell(err) != (api.Fault{Code: api.CodeArg}) {
		t.Error(all, faultText(err))
	}
	if made, err := subst.Parse(nil, 0); made == nil || err != nil || made.Text() != "" {
		t.Error(made, faultText(err))
	}
	wantMatches(t, try(t, "a", extended), "", nil)
	if got, count, err := subst.Replace(try(t, "a*", extended), parse(t, "x", 0), nil, 1, true); string(got) != "x" || count != 1 || err != nil {
		t.Error(got, count, faultText(err))
	}
}

// TestKept: what is handed in stays as it is and is not kept; what lies behind a length is neither read nor written; what is told is the caller's own.
func TestKept(t *testing.T) {
	text := []byte(`[\1&x\n]y\2`)
	made, err := subst.Parse(text[:8:9], 1)
	if err != nil || string(text) != `[\1&x\n]y\2` {
		t.Fatalf("%q, %s", text, faultText(err))
	}
	fill(text, '#')
	const pieces = `"5b" \1 & "780a5d"`
	r := try(t, "(a)b", extended)
	whole := []byte("xabyab")
	for length := range len(whole) + 1 {
		s := whole[:length]
		got, err := subst.Matches(r, s)
		if want := matchesIn(r, string(s)); !slices.EqualFunc(got, want, slices.Equal) || err != nil {
			t.Errorf("Matches(%q), with more behind it: %v, %s, want %v", s, got, faultText(err), want)
		}
		out, _, err := subst.Replace(r, made, s, 1, true)
		if want := strings.ReplaceAll(string(s), "ab", "[aabx\n]"); string(out) != want || err != nil {
			t.Errorf("Replace of %q, with more behind it: %q, %s, want %q", s, out, faultText(err), want)
		}
		spans := []api.Span{{Start: 0, End: length}, {Start: 0, End: 1}}
		applied := made.Apply(s, spans[:1])
		if want := "[" + string(s) + "x\n]"; string(applied) != want {
			t.Errorf("Apply of %q: %q, want %q", s, applied, want)
		}
		if beyond := made.Apply(s, []api.Span{{Start: 0, End: length + 1}}); string(beyond) != "[x\n]" {
			t.Errorf("Apply of %q, beyond its end: %q", s, beyond)
		}
		for _, told := range got { // to change them must change nothing else
			_ = append(told, api.Span{Start: 77, End: 77})
			told[0] = api.Span{}
		}
		_, _ = append(out, "####"...), append(applied, "####"...)
		fill(out[:cap(out)], '#')
		fill(applied[:cap(applied)], '#')
		if string(whole) != "xabyab" || made.Text() != pieces || spans[1].End != 1 {
			t.Fatalf("now there are %q and %s", whole, made.Text())
		}
	}
}

// fill overwrites bytes.
func fill(bytes []byte, by byte) {
	for i := range bytes {
		bytes[i] = by
	}
}

// TestKeptOwn: what one call tells is not what another one tells, even where the template's bytes are all.
func TestKeptOwn(t *testing.T) {
	made := parse(t, "xyz", 0)
	one := made.Apply(nil, nil)
	fill(one, '#')
	if other := made.Apply(nil, nil); string(other) != "xyz" {
		t.Errorf("%q", other)
	}
	s := []byte("abc")
	out, _, _ := subst.Replace(try(t, "x", extended), made, s, 1, true)
	fill(out, '#')
	if string(s) != "abc" {
		t.Errorf("%q", s)
	}
	all, _ := subst.Matches(try(t, "(.)", extended), s)
	for at, spans := range all {
		for _, later := range all[at+1:] {
			if &spans[0] == &later[0] {
				t.Error("two lists are one")
			}
		}
		_ = append(spans, missing)
	}
	if !slices.EqualFunc(all, matchesOf("0 1, 0 1; 1 2, 1 2; 2 3, 2 3"), slices.Equal) {
		t.Error(all)
	}
}

// TestMany: one template, and one expression, at one time.
func TestMany(t *testing.T) {
	r, made := try(t, "(a|b{2})+c?", extended), parse(t, `<\1&>`, 1)
	s := []byte("cabbac-bbb-a")
	var workers sync.WaitGroup
	for range 8 {
		workers.Go(func() {
			for range 100 {
				out, count, err := subst.Replace(r, made, s, 1, true)
				if string(out) != "c<aabbac>-<bbbb>b-<aa>" || count != 3 || err != nil || made.Text() != `"3c" \1 & "3e"` {
					t.Error("another answer")
				}
			}
		})
	}
	workers.Wait()
}
