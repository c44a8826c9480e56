package set_test

import (
	"math"
	"strings"
	"sync"
	"testing"

	"pidgin/api"
	"pidgin/fault"
	"pidgin/set"
)

// TestP5_4Sets: brackets that the three languages read alike.
func TestP5_4Sets(t *testing.T) {
	for text, want := range map[string]string{
		"a]": "[61]", "abc]": "[61-63]", "cba]": "[61-63]", "aaa]": "[61]", "\x00]": "[00]", "\xff]": "[ff]", "\xff\x00]": "[00,ff]", "a\n]": "[0a,61]", " \t]": "[09,20]", "é]": "[a9,c3]", "*?.$+(){}|/]": "[24,28-2b,2e-2f,3f,7b-7d]",
		"]]": "[5d]", "]a]": "[5d,61]", "]-]": "[2d,5d]", "]-a]": "[5d-61]", "]-^]": "[5d-5e]", "^]]": "[00-5c,5e-ff]", "^]a]": "[00-5c,5e-60,62-ff]", "^]-a]": "[00-5c,62-ff]", "^]-]": "[00-2c,2e-5c,5e-ff]",
		"^a]": "[00-60,62-ff]", "^a-c]": "[00-60,64-ff]", "^^]": "[00-5d,5f-ff]", "^^a]": "[00-5d,5f-60,62-ff]", "a^]": "[5e,61]", "a!]": "[21,61]", "a^b]": "[5e,61-62]", "^!]": "[00-20,22-ff]", "^!a]": "[00-20,22-60,62-ff]", "^\x00-\xff]": "[]", "\x00-\xff]": "[00-ff]",
		"a-c]": "[61-63]", "a-a]": "[61]", "\xff-\xff]": "[ff]", "\x00-\x00]": "[00]", "a-cx-z]": "[61-63,78-7a]", "a-cb-d]": "[61-64]", "a-c-e]": "[2d,61-63,65]", "a-c-]": "[2d,61-63]", "+--]": "[2b-2d]", "--/]": "[2d-2f]", "---]": "[2d]", "--]": "[2d]", "-]": "[2d]", "-a]": "[2d,61]", "a-]": "[2d,61]", "-a-]": "[2d,61]", "^-]": "[00-2c,2e-ff]", "^-a]": "[00-2c,2e-60,62-ff]", "^--/]": "[00-2c,30-ff]", "a-c-e-g]": "[2d,61-63,65-67]", "----]": "[2d]", "%--a]": "[25-2d,61]", "^--]": "[00-2c,2e-ff]",
		"[]": "[5b]", "[a]": "[5b,61]", "a[]": "[5b,61]", "[[]": "[5b]", "[-a]": "[5b-61]", "A-[]": "[41-5b]", "[x:]": "[3a,5b,78]", ":]": "[3a]", "a:]": "[3a,61]", ".]": "[2e]", "=]": "[3d]", "a.b=c]": "[2e,3d,61-63]", "[-[]": "[5b]", "][]": "[5b,5d]",
		"[:digit:]]": "[30-39]", "[:digit:]x]": "[30-39,78]", "x[:digit:]]": "[30-39,78]", "[:upper:][:lower:]]": "[41-5a,61-7a]", "^[:print:]]": "[00-1f,7f-ff]", "][:blank:]]": "[09,20,5d]", "^][:alnum:]]": "[00-2f,3a-40,5b-5c,5e-60,7b-ff]", "[:digit:]-]": "[2d,30-39]", "[:digit:]-z]": "[2d,30-39,7a]", "[:digit:]--/]": "[2d-39]", "[:digit:]-[:upper:]]": "[2d,30-39,41-5a]", "-[:digit:]]": "[2d,30-39]", "[:digit:][]": "[30-39,5b]", "a-c[:digit:]]": "[30-39,61-63]", "[[:digit:]]": "[30-39,5b]", "[:cntrl:]^]": "[00-1f,5e,7f]",
	} {
		for _, lang := range langs() {
			wantSet(t, text, lang, want, 0)
			wantSet(t, text+"]", lang, want, 1)
			wantSet(t, text+"a-]\\[:x", lang, want, 7)
		}
	}
	for name, m := range classes() {
		for _, lang := range langs() {
			wantSet(t, "[:"+name+":]]", lang, m.text(), 0)
			wantSet(t, "^[:"+name+":]]:]", lang, m.turned().text(), 2)
			wantSet(t, "\x80[:"+name+":]\x81[:"+name+":]]", lang, m.with(among("\x80\x81")).text(), 0)
		}
	}
}

// TestP5_4Turns: ! turns in LangGlob alone, and only where it stands first.
func TestP5_4Turns(t *testing.T) {
	for _, c := range []struct{ text, glob, others string }{
		{"!a]", "[00-60,62-ff]", "[21,61]"}, {"!^a]", "[00-5d,5f-60,62-ff]", "[21,5e,61]"}, {"!!]", "[00-20,22-ff]", "[21]"}, {"!!a]", "[00-20,22-60,62-ff]", "[21,61]"}, {"!a-c]", "[00-60,64-ff]", "[21,61-63]"}, {"!-]", "[00-2c,2e-ff]", "[21,2d]"}, {"!-a]", "[00-2c,2e-60,62-ff]", "[21-61]"}, {"!--/]", "[00-2c,30-ff]", "[21-2d,2f]"}, {"![:digit:]]", "[00-2f,3a-ff]", "[21,30-39]"}, {"^!-a]", "[00-20,62-ff]", "[00-20,62-ff]"},
	} {
		wantSet(t, c.text, api.LangGlob, c.glob, 0)
		wantSet(t, c.text, api.LangBre, c.others, 0)
		wantSet(t, c.text, api.LangEre, c.others, 0)
	}
	wantSet(t, "!]]", api.LangGlob, "[00-5c,5e-ff]", 0) // the ] stands first behind what turns
	wantSet(t, "!]]", api.LangBre, "[21]", 1)
	wantSet(t, "!]]", api.LangEre, "[21]", 1)
	wantFault(t, "!]", 0, api.LangGlob, api.CodeBracket, 2)
}

// TestP5_4Backslash: it quotes in LangGlob, and is a byte in the others.
func TestP5_4Backslash(t *testing.T) {
	for text, want := range map[string]string{
		`\a]`: "[61]", `\\]`: "[5c]", `\]]`: "[5d]", `a\]b]`: "[5d,61-62]", `\^a]`: "[5e,61]", `\!a]`: "[21,61]", `!\!]`: "[00-20,22-ff]", `^\^]`: "[00-5d,5f-ff]", `a\-z]`: "[2d,61,7a]", `a\-]`: "[2d,61]", `\--0]`: "[2d-30]", `\-]`: "[2d]", `+-\-]`: "[2b-2d]", `+-\]]`: "[2b-5d]", `\a-\c]`: "[61-63]", `\a-c]`: "[61-63]", `a-\c]`: "[61-63]", `\[:digit:]`: "[3a,5b,64,67,69,74]", `\[.a]`: "[2e,5b,61]", `A-\[]`: "[41-5b]", `A-\[:]`: "[3a,41-5b]", `[\:a]`: "[3a,5b,61]", "\\\n]": "[0a]", "\\\xff]": "[ff]", `]\]]`: "[5d]", `\]-\a]`: "[5d-61]",
	} {
		wantSet(t, text, api.LangGlob, want, 0)
	}
	for _, lang := range []int{api.LangBre, api.LangEre} {
		wantSet(t, `\a]`, lang, "[5c,61]", 0)
		wantSet(t, `\\]`, lang, "[5c]", 0)
		wantSet(t, `\]]`, lang, "[5c]", 1)
		wantSet(t, `a\]b]`, lang, "[5c,61]", 2)
		wantSet(t, `a\-z]`, lang, "[5c-7a]", 0)
		wantSet(t, `A-\]`, lang, "[41-5c]", 0)
		wantSet(t, `\-\]`, lang, "[5c]", 0)
	}
}

// TestP5_4Ends: a bracket without its ] is refused at the end.
func TestP5_4Ends(t *testing.T) {
	for _, text := range []string{"", "]", "^", "^]", "a", "abc", "-", "--", "---", "a-", "a-c", "a-c-", "^a", "^^", "]a", "]-", "]-a", "[", "a[", "A-[", "[:digit:]", "[:digit:]-", "[:digit:]-a", "^[:digit:]", "é", "\x00", "a\n"} {
		for _, lang := range langs() {
			wantFault(t, text, 0, lang, api.CodeBracket, len(text))
			wantFault(t, text+"b", 0, lang, api.CodeBracket, len(text)+1)
		}
	}
	for _, text := range []string{"!", "!]", `\`, `a\`, `\]`, `a\]`, `a-\`, `!\`, `^\`, `]\`, `\\\`, `a\b\`, `\[:`, `[:digit:]\`, `[:digit:]-\`} {
		wantFault(t, text, 0, api.LangGlob, api.CodeBracket, len(text))
	}
	for _, text := range []string{"!", `\`, `a\`, `A-\`, `]\`, `\[`, `\\`} {
		wantFault(t, text, 0, api.LangBre, api.CodeBracket, len(text))
		wantFault(t, text, 0, api.LangEre, api.CodeBracket, len(text))
	}
}

// TestP5_4Classes: [: without its :] or with no class's name, [. and [= are refused at the [, as a class is where a range ends.
func TestP5_4Classes(t *testing.T) {
	for _, ahead := range []string{"", "a", "]", "^", "^]", "-", "[", "abc-e", "[:digit:]", "[:digit:]-", "a-c-", "^-", "]-a", "a-", "--", "]-", "^a-", "[-", "[:digit:]--"} {
		for _, bad := range []string{"[:", "[:]", "[:]]", "[::]", "[::]]", "[:x:]]", "[:digit]", "[:digit]]", "[:digit", "[:digit:", "[: digit:]]", "[:digit :]]", "[:DIGIT:]]", "[:Digit:]]", "[:[:digit:]:]]", "[:x]:digit:]]", "[:a]]:]", "[:\x00:]]", "[:^digit:]]", "[.", "[.]", "[.a.]]", "[.-.]]", "[=", "[=]", "[=a=]]", "[.digit.]]", "[=]=]]"} {
			for _, lang := range langs() {
				wantFault(t, ahead+bad, 0, lang, api.CodeBracket, len(ahead))
			}
		}
	}
	for _, ahead := range []string{"a-", "--", "]-", "[-", "^a-", "^--", "^]-", "a-c--", "a-cd-", "[:digit:]--", "[:digit:]-a-"} { // where a range waits for its end
		for name := range classes() {
			for _, behind := range []string{"", "]", "-z]"} {
				for _, lang := range langs() {
					wantFault(t, ahead+"[:"+name+":]"+behind, 0, lang, api.CodeBracket, len(ahead))
				}
			}
		}
	}
	wantFault(t, `\a-[:digit:]]`, 0, api.LangGlob, api.CodeBracket, 3)
	wantFault(t, `\--[.a.]]`, 0, api.LangGlob, api.CodeBracket, 3)
	wantFault(t, `!a-[=a=]]`, 0, api.LangGlob, api.CodeBracket, 3)
	wantFault(t, `!a-[=a=]]`, 0, api.LangEre, api.CodeBracket, 3)
}

// TestP5_4Ranges: a range that falls is refused at the first of both.
func TestP5_4Ranges(t *testing.T) {
	for _, lang := range langs() {
		for _, behind := range []string{"", "]", "x]", "-", "[:x", "-z]"} {
			wantFault(t, "z-a"+behind, 0, lang, api.CodeRange, 0)
			wantFault(t, "b-a"+behind, 0, lang, api.CodeRange, 0)
			wantFault(t, "^b-a"+behind, 0, lang, api.CodeRange, 1)
			wantFault(t, "]-A"+behind, 0, lang, api.CodeRange, 0)
			wantFault(t, "^]-A"+behind, 0, lang, api.CodeRange, 1)
			wantFault(t, "a--"+behind, 0, lang, api.CodeRange, 0)
			wantFault(t, "--+"+behind, 0, lang, api.CodeRange, 0)
			wantFault(t, "\xff-\x00"+behind, 0, lang, api.CodeRange, 0)
			wantFault(t, "\x80-\x7f"+behind, 0, lang, api.CodeRange, 0)
			wantFault(t, "a-cz-x"+behind, 0, lang, api.CodeRange, 3)
			wantFault(t, "[:digit:]9-0"+behind, 0, lang, api.CodeRange, 9)
			wantFault(t, "[:digit:]--+"+behind, 0, lang, api.CodeRange, 9)
			wantFault(t, "a-c--+"+behind, 0, lang, api.CodeRange, 3)
			wantFault(t, "c-[c"+behind, 0, lang, api.CodeRange, 0)
		}
	}
	wantFault(t, "a-!]", 0, api.LangGlob, api.CodeRange, 0)
	wantFault(t, "!b-a]", 0, api.LangGlob, api.CodeRange, 1)
	wantFault(t, `a-\]]`, 0, api.LangGlob, api.CodeRange, 0)
	wantFault(t, `a-\]`, 0, api.LangGlob, api.CodeRange, 0)
	wantFault(t, `a-\-]`, 0, api.LangGlob, api.CodeRange, 0)
	wantFault(t, `x\z-\a]`, 0, api.LangGlob, api.CodeRange, 1) // where the first item begins
	wantFault(t, `a-\]`, 0, api.LangBre, api.CodeRange, 0)
	wantFault(t, `\-[]`, 0, api.LangEre, api.CodeRange, 0)
}

// TestP5_4First: of several errors the first that reading meets.
func TestP5_4First(t *testing.T) {
	for _, lang := range langs() {
		wantFault(t, "z-a[:x:]", 0, lang, api.CodeRange, 0)
		wantFault(t, "[:x:]z-a", 0, lang, api.CodeBracket, 0)
		wantFault(t, "z-[:x:]", 0, lang, api.CodeBracket, 2)
		wantFault(t, "z-[.a.]b-a", 0, lang, api.CodeBracket, 2)
		wantFault(t, "az-ab-a]", 0, lang, api.CodeRange, 1)
		wantFault(t, "a[=[.", 0, lang, api.CodeBracket, 1)
		wantSet(t, "a]z-a[:x:]", lang, "[61]", 8)
	}
}

// TestP5_4Args: places outside, languages that are none of the three.
func TestP5_4Args(t *testing.T) {
	const b = "x[a-c]y"
	for _, lang := range langs() {
		for _, at := range []int{math.MinInt, math.MinInt32, -2, -1, len(b) + 1, len(b) + 2, 1 << 32, math.MaxInt - 1, math.MaxInt} {
			wantFault(t, b, at, lang, api.CodeArg, 0)
			wantFault(t, "", at, lang, api.CodeArg, 0)
		}
	}
	for _, lang := range []int{math.MinInt, -1, 0, 1, 5, 6, 7, 8, 9, 10, 11, 12, 1<<32 + 2, 1<<32 + 3, math.MaxInt} {
		for _, at := range []int{math.MinInt, -1, 0, 2, len(b), len(b) + 1, math.MaxInt} {
			wantFault(t, b, at, lang, api.CodeArg, 0)
		}
	}
}

// TestP5_4Places: a bracket is read from any place within, whatever stands ahead; places are those of the whole text.
func TestP5_4Places(t *testing.T) {
	const b = "x[a-c]y[z-a]"
	for _, lang := range langs() {
		for at, want := range []struct {
			text string
			end  int
		}{{"[5b,61-63,78]", 6}, {"[5b,61-63]", 6}, {"[61-63]", 6}, {"[2d,63]", 6}, {"[63]", 6}} {
			s, end, err := set.Bracket([]byte(b), at, lang)
			if err != nil || set.Text(s) != want.text || end != want.end {
				t.Errorf("from %d in %d: %s to %d, %v", at, lang, set.Text(s), end, err)
			}
		}
		wantFault(t, b, 6, lang, api.CodeRange, 8)
		wantFault(t, b, 8, lang, api.CodeRange, 8)
		wantFault(t, b, 11, lang, api.CodeBracket, len(b)) // a ] that stands first
		wantFault(t, b, len(b), lang, api.CodeBracket, len(b))
		wantFault(t, "", 0, lang, api.CodeBracket, 0)
		wantFault(t, "x[ab[.a.]]", 2, lang, api.CodeBracket, 4)
		if s, end, err := set.Bracket(nil, 0, lang); s != (api.Set{}) || end != 0 || fault.Tell(err) != (api.Fault{Code: api.CodeBracket, Lang: lang}) {
			t.Errorf("of nil: %v %d %v", s, end, err)
		}
	}
	wantFault(t, `x[a\`, 2, api.LangGlob, api.CodeBracket, 4)
}

// TestP5_4Long: long brackets.
func TestP5_4Long(t *testing.T) {
	many := strings.Repeat("ab", 100000)
	for _, lang := range langs() {
		wantSet(t, many+"]", lang, "[61-62]", 0)
		wantSet(t, strings.Repeat("[:digit:]", 20000)+"]", lang, "[30-39]", 0)
		wantSet(t, strings.Repeat("a-b", 50000)+"]", lang, "[61-62]", 0)
		wantFault(t, many, 0, lang, api.CodeBracket, len(many))
		wantFault(t, "[:"+many, 0, lang, api.CodeBracket, 0)
		wantFault(t, many+"[:"+many+":]]", 0, lang, api.CodeBracket, len(many))
	}
}

// TestP5_4Examples: what the document shows.
func TestP5_4Examples(t *testing.T) {
	for _, lang := range langs() {
		wantSet(t, "abc]", lang, "[61-63]", 0)
		wantSet(t, "]a]", lang, "[5d,61]", 0)
		wantSet(t, "^a-c]", lang, "[00-60,64-ff]", 0)
		wantSet(t, "a-]", lang, "[2d,61]", 0)
		wantSet(t, "--/]", lang, "[2d-2f]", 0)
		wantSet(t, "[:digit:]x]", lang, "[30-39,78]", 0)
		wantFault(t, "a-[:digit:]]", 0, lang, api.CodeBracket, 2)
		wantFault(t, "[.a.]]", 0, lang, api.CodeBracket, 0)
		wantFault(t, "z-a]", 0, lang, api.CodeRange, 0)
		wantFault(t, "a", 0, lang, api.CodeBracket, 1)
	}
	wantSet(t, "!a]", api.LangBre, "[21,61]", 0)
}

// TestBracketKept: the bytes stay as they are, and what lies behind their length is not read; two calls at one time.
func TestBracketKept(t *testing.T) {
	b := []byte("[a-c]]z]")
	if _, _, err := set.Bracket(b[:4:8], 1, api.LangBre); fault.Tell(err) != (api.Fault{Code: api.CodeBracket, Pos: 4, Lang: api.LangBre}) {
		t.Error("what lies behind the length is read:", err)
	}
	s, _, _ := set.Bracket(b, 1, api.LangBre)
	if string(b) != "[a-c]]z]" {
		t.Errorf("the bytes are changed: %q", b)
	}
	copy(b, "zzzzzzzz")
	want(t, "the bytes changed", s, among("abc"))
	copy(b, "[a-c]]z]")
	var all sync.WaitGroup
	for range 8 {
		all.Go(func() {
			for range 200 {
				if s, end, err := set.Bracket(b, 1, api.LangEre); set.Text(s) != "[61-63]" || end != 5 || err != nil {
					t.Error(set.Text(s), end, err)
				}
			}
		})
	}
	all.Wait()
}
