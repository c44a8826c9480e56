package glob_test

import (
	"slices"
	"strings"
	"sync"
	"testing"

	"pidgin/api"
	"pidgin/glob"
)

// TestP6_1Empty: the empty pattern has no pieces, and is plain.
func TestP6_1Empty(t *testing.T) {
	for _, b := range [][]byte{nil, {}} {
		p, err := glob.Parse(b)
		if p == nil || err != nil || len(p.Pieces()) != 0 || p.Text() != "" {
			t.Errorf("%v: %v, %v", b, p, err)
		}
	}
	wantPlain(t, "", "")
}

// TestP6_1Long: up to 256 bytes are read, whatever they are; more are refused.
func TestP6_1Long(t *testing.T) {
	for _, c := range []struct{ unit, word string }{
		{"a", "[61]"}, {"*", "*"}, {"?", "?"}, {"[", "[5b]"}, {"]", "[5d]"}, {"\x00", "[00]"}, {"\xff", "[ff]"}, {`\a`, "[61]"}, {`\\`, "[5c]"}, {`\*`, "[2a]"}, {"é", "[c3] [a9]"}, {"[ab]", "[61-62]"}, {"[]]?", "[5d] ?"}, {"[z-a]*[=", "[5b] [7a] [2d] [61] [5d] * [5b] [3d]"},
	} {
		times := api.MaxGlob / len(c.unit)
		full := strings.Repeat(c.unit, times)
		words := strings.TrimSuffix(strings.Repeat(c.word+" ", times), " ")
		wantText(t, full, words)
		wantText(t, full[len(c.unit):], words[len(c.word)+1:])
		for _, more := range []string{"a", "*", "]", "\\", "\x00", c.unit, full} {
			wantLong(t, full+more)
			wantLong(t, more+full)
		}
	}
	wantText(t, strings.Repeat("a", 255)+`\`, hexes(strings.Repeat("a", 255)+`\`))
	wantText(t, strings.Repeat("a", 254)+`\*`, hexes(strings.Repeat("a", 254)+`*`))
	wantText(t, "["+strings.Repeat("ab", 127)+"]", "[61-62]")
	wantText(t, "["+strings.Repeat("ab", 127)+"a", hexes("["+strings.Repeat("ab", 127)+"a"))
	wantLong(t, "["+strings.Repeat("ab", 127)+"a]")
	wantLong(t, strings.Repeat("x", 1<<20))
}

// TestP6_1Bytes: * and ? are any bytes and any byte; the other bytes are themselves, alone and beside one another.
func TestP6_1Bytes(t *testing.T) {
	eachByte(func(b byte, text string) {
		want := hex(b)
		if b == '*' || b == '?' {
			want = text
		}
		wantText(t, text, want)
		if b != '\\' { // it would quote what stands behind it
			wantText(t, text+"]", want+" [5d]")
			wantText(t, text+text+"a", want+" "+want+" [61]")
			wantText(t, "a"+text+"*", "[61] "+want+" *")
		}
	})
	wantText(t, "*?", "* ?")
	wantText(t, "?*", "? *")
	wantText(t, "**", "* *")
	wantText(t, "???", "? ? ?")
	wantText(t, "a*b?c", "[61] * [62] ? [63]")
	wantText(t, "\x00*\xff", "[00] * [ff]")
	wantText(t, "a/b.c", "[61] [2f] [62] [2e] [63]")
	wantText(t, "^!-]{}()|+$", hexes("^!-]{}()|+$"))
	wantText(t, " \t\n", "[20] [09] [0a]")
	wantText(t, "日", "[e6] [97] [a5]")
	wantText(t, "\xe6*\x97", "[e6] * [97]")
}

// TestP6_1Brackets: brackets that are read, and where reading goes on.
func TestP6_1Brackets(t *testing.T) {
	for text, want := range map[string]string{
		"[a]": "[61]", "[abc]": "[61-63]", "[ca]": "[61,63]", "[*]": "[2a]", "[?]": "[3f]", "[*?]": "[2a,3f]", "[\x00\xff]": "[00,ff]", "[/]": "[2f]",
		"[^a]": "[00-60,62-ff]", "[!a]": "[00-60,62-ff]", "[a^]": "[5e,61]", "[a!]": "[21,61]", "[^^]": "[00-5d,5f-ff]", "[!!]": "[00-20,22-ff]", "[!^]": "[00-5d,5f-ff]", "[^!]": "[00-20,22-ff]", "[^\x00-\xff]": "[]", "[!\x00-\xfe]": "[ff]", "[\x00-\xff]": "[00-ff]", "[!-a]": "[00-2c,2e-60,62-ff]",
		"[[:digit:]]": "[30-39]", "[[:digit:]x]": "[30-39,78]", "[![:alnum:]]": "[00-2f,3a-40,5b-60,7b-ff]", "[[:upper:][:lower:]]": "[41-5a,61-7a]", "[[:blank:]-]": "[09,20,2d]", "[^[:cntrl:]]": "[20-7e,80-ff]", "[[:space:]]": "[09-0d,20]",
		"[a-c]": "[61-63]", "[a-a]": "[61]", "[a-cx-z]": "[61-63,78-7a]", "[a-]": "[2d,61]", "[-a]": "[2d,61]", "[--/]": "[2d-2f]", "[-]": "[2d]", "[a-c-e]": "[2d,61-63,65]", "[*-?]": "[2a-3f]", "[!a-c]": "[00-60,64-ff]",
		"[]]": "[5d]", "[]a]": "[5d,61]", "[^]]": "[00-5c,5e-ff]", "[!]]": "[00-5c,5e-ff]", "[]-a]": "[5d-61]", "[!]a]": "[00-5c,5e-60,62-ff]", "[]*]": "[2a,5d]",
		`[\]]`: "[5d]", `[\]a]`: "[5d,61]", `[a\]b]`: "[5d,61-62]", `[\\]`: "[5c]", `[\a]`: "[61]", `[\*]`: "[2a]", `[a\-z]`: "[2d,61,7a]", `[\a-\c]`: "[61-63]", `[\!a]`: "[21,61]", `[\^a]`: "[5e,61]", `[!\!]`: "[00-20,22-ff]", `[\[:alpha:]`: "[3a,5b,61,68,6c,70]",
		"[[]": "[5b]", "[[a]": "[5b,61]", "[a[b]": "[5b,61-62]", "[[-a]": "[5b-61]", "[:]": "[3a]", "[:a:]": "[3a,61]",
	} {
		wantText(t, text, want)
		wantText(t, "x*"+text, "[78] * "+want)
		wantText(t, text+"]", want+" [5d]")
		wantText(t, text+"-z]", want+" [2d] [7a] [5d]")
		wantText(t, text+text+"?", want+" "+want+" ?")
		wantText(t, text+"[", want+" [5b]")
		wantText(t, text+`\[a]`, want+" [5b] [61] [5d]")
	}
	wantText(t, "[a][b]*[c]", "[61] [62] * [63]")
	wantText(t, "[]][[]", "[5d] [5b]")
	wantText(t, "a[b]c[d]e", "[61] [62] [63] [64] [65]")
}

// TestP6_1Refused: of a bracket that may not be the [ is a byte, and reading goes on right behind it.
func TestP6_1Refused(t *testing.T) {
	for text, want := range map[string]string{
		"[": "[5b]", "[a": "[5b] [61]", "[]": "[5b] [5d]", "[]a": "[5b] [5d] [61]", "[^": "[5b] [5e]", "[!": "[5b] [21]", "[^]": "[5b] [5e] [5d]", "[!]": "[5b] [21] [5d]", "[!]a": "[5b] [21] [5d] [61]", "[[": "[5b] [5b]", "[a-": "[5b] [61] [2d]", "[a-c": "[5b] [61] [2d] [63]", "x[": "[78] [5b]", "[*": "[5b] *", "[a?": "[5b] [61] ?", "[*?b": "[5b] * ? [62]",
		"[z-a]": "[5b] [7a] [2d] [61] [5d]", "[z-a]b]": "[5b] [7a] [2d] [61] [5d] [62] [5d]", "[b-a*]": "[5b] [62] [2d] [61] * [5d]", "[a--]": "[5b] [61] [2d] [2d] [5d]", "[?-*]": "[5b] ? [2d] * [5d]", "[!z-a]": "[5b] [21] [7a] [2d] [61] [5d]", "[az-a]*": "[5b] [61] [7a] [2d] [61] [5d] *", "[\xff-\x00]": "[5b] [ff] [2d] [00] [5d]",
		"[.": "[5b] [2e]", "[=": "[5b] [3d]", "[[.": "[5b] [5b] [2e]", "[[=": "[5b] [5b] [3d]", "[a[=": "[5b] [61] [5b] [3d]",
		`[\`: "[5b] [5c]", `[\]`: "[5b] [5d]", `[a\]`: "[5b] [61] [5d]", `[\a`: "[5b] [61]", `[\*`: "[5b] [2a]", `[*\`: "[5b] * [5c]", `[a-\]`: "[5b] [61] [2d] [5d]", `[!\]`: "[5b] [21] [5d]", `[\\`: "[5b] [5c]", `[\\\]`: "[5b] [5c] [5d]", `[z-\a]`: "[5b] [7a] [2d] [61] [5d]",
	} {
		wantText(t, text, want)
		wantText(t, "a"+text, "[61] "+want)
		wantText(t, "*[b]"+text, "* [62] "+want)
		if text[0] == '[' { // quoted or not, it is a byte
			wantText(t, `\`+text, want)
		}
	}
	// The brackets that stand within one that may not be are read in their turn.
	wantText(t, "[[:x:]]", "[5b] [3a,78] [5d]")
	wantText(t, "[[:DIGIT:]]", "[5b] [3a,44,47,49,54] [5d]")
	wantText(t, "[a[:x:]b]", "[5b] [61] [3a,78] [62] [5d]")
	wantText(t, "[[:]]", "[5b] [3a] [5d]")
	wantText(t, "[[::]]", "[5b] [3a] [5d]")
	wantText(t, "[[:digit:]", "[5b] [3a,64,67,69,74]")
	wantText(t, "[[:digit:", "[5b] [5b] [3a] [64] [69] [67] [69] [74] [3a]")
	wantText(t, "[[:digit:][:x:]]", "[5b] [3a,64,67,69,74] [3a,78] [5d]")
	wantText(t, "[a-[:digit:]]", "[5b] [61] [2d] [3a,64,67,69,74] [5d]")
	wantText(t, "[[.a.]]", "[5b] [2e,61] [5d]")
	wantText(t, "[[.-.]]", "[5b] [2e] [5d]")
	wantText(t, "[[=a=]]", "[5b] [3d,61] [5d]")
	wantText(t, "[a-[.b.]]", "[5b] [61] [2d] [2e,62] [5d]")
	wantText(t, "[![=a=]*]", "[5b] [21] [3d,61] * [5d]")
	wantText(t, "[z-a[b]", "[5b] [7a] [2d] [61] [62]")
	wantText(t, "[z-a[!b]*", "[5b] [7a] [2d] [61] [00-61,63-ff] *")
	wantText(t, "[b-a[d-c[f-e]]]", "[5b] [62] [2d] [61] [5b] [64] [2d] [63] [5b] [66] [2d] [65] [5d] [5d] [5d]")
	wantText(t, "[b][", "[62] [5b]")
	wantText(t, `[[:digit:]\`, `[5b] [3a,64,67,69,74] [5c]`)
	wantText(t, `[z-a\]`, "[5b] [7a] [2d] [61] [5d]")
}

// TestP6_1Backslash: it is the byte behind it, whatever that is; at the end it is itself.
func TestP6_1Backslash(t *testing.T) {
	eachByte(func(b byte, text string) {
		wantText(t, `\`+text, hex(b))
		wantText(t, `a\`+text+"*", "[61] "+hex(b)+" *")
		wantText(t, `\`+text+`\`, hex(b)+" [5c]")
		wantText(t, `*\`+text+`\`+text, "* "+hex(b)+" "+hex(b))
	})
	wantText(t, `\`, "[5c]")
	wantText(t, `a\`, "[61] [5c]")
	wantText(t, `*\`, "* [5c]")
	wantText(t, `[a]\`, "[61] [5c]")
	wantText(t, `\\`, "[5c]")
	wantText(t, `\\\`, "[5c] [5c]")
	wantText(t, `\\\\`, "[5c] [5c]")
	wantText(t, `\\*`, "[5c] *")
	wantText(t, `\\\*`, "[5c] [2a]")
	wantText(t, `\*\?\[\\`, "[2a] [3f] [5b] [5c]")
	wantText(t, `\n\t\0`, "[6e] [74] [30]")
	wantText(t, "\\\n", "[0a]")
	wantText(t, `\[a]`, "[5b] [61] [5d]")
	wantText(t, `\[!a-z]*`, "[5b] [21] [61] [2d] [7a] [5d] *")
	wantText(t, `\[*]`, "[5b] * [5d]")
	wantText(t, `\[[a]`, "[5b] [61]")
	wantText(t, `\\[a-b]`, "[5c] [61-62]")
	wantText(t, `\[[:digit:]]`, "[5b] [3a,64,67,69,74] [5d]")
	wantText(t, `[\[a]`, "[5b,61]")
	wantText(t, `x\[]]`, "[78] [5b] [5d] [5d]")
}

// TestP6_2Pieces: all pieces, in order, with their kinds and sets, anew each time.
func TestP6_2Pieces(t *testing.T) {
	any, one := api.Piece{Kind: api.GMany}, api.Piece{Kind: api.GOne}
	for text, want := range map[string][]api.Piece{
		"": nil, "*": {any}, "?": {one}, "a": {only('a')}, "\x00\xff": {only(0), only(255)}, "?@\x7f\x80\xbf\xc0": {one, only('@'), only(127), only(128), only(191), only(192)},
		"*?*": {any, one, any}, "a*?[b-d]": {only('a'), any, one, only('b', 'c', 'd')}, "[a": {only('['), only('a')}, `\*\`: {only('*'), only('\\')}, "[^\x00-\xff]": {only()}, "[]-]": {only(']', '-')}, "[a][ba]": {only('a'), only('a', 'b')}, "aab": {only('a'), only('a'), only('b')}, "[!\x02-\xfd]": {only(0, 1, 254, 255)},
	} {
		p := parse(t, text)
		first := p.Pieces()
		wantPieces(t, text, first, want)
		for i := range first {
			first[i] = api.Piece{Kind: 7, Set: api.Set{1, 2, 3, 4}}
		}
		_ = append(first, any)
		wantPieces(t, text, p.Pieces(), want)
	}
	p := parse(t, "a*b")
	first, second := p.Pieces(), p.Pieces()
	_ = append(first[:1], first[:2]...)
	wantPieces(t, "a*b, told a second time", second, []api.Piece{only('a'), any, only('b')})
	if text := p.Text(); text != "[61] * [62]" {
		t.Error("the text of what was told is changed:", text)
	}
	if text, ok := parse(t, "ab").Plain(); text != "ab" || !ok {
		t.Errorf("Plain %q %v", text, ok)
	}
}

// TestP6_2Text: each kind of piece, and the spaces between.
func TestP6_2Text(t *testing.T) {
	for text, want := range map[string]string{
		"": "", "*": "*", "?": "?", "a": "[61]", "[a]": "[61]", " ": "[20]", "[ -~]": "[20-7e]", "[^\x00-\xff]": "[]", "[!-]": "[00-2c,2e-ff]", "\x0f": "[0f]", "[jJ]": "[4a,6a]", "[\x00-\x01\xfe\xff]": "[00-01,fe-ff]",
		"**": "* *", "*?": "* ?", "?a": "? [61]", "[^\x00-\xff]*": "[] *", "*[^\x00-\xff]": "* []", "[^\x00-\xff][!\x00-\xff]": "[] []", "a b": "[61] [20] [62]", "a*?[b-d]": "[61] * ? [62-64]",
	} {
		wantText(t, text, want)
	}
	words := strings.Split(parse(t, strings.Repeat("a*[b-d]?", 32)).Text(), " ")
	for i, want := range slices.Repeat([]string{"[61]", "*", "[62-64]", "?"}, 32) {
		if words[i] != want {
			t.Fatalf("word %d of a long pattern: %s, want %s", i, words[i], want)
		}
	}
}

// TestP6_3Plain: the bytes of a pattern whose pieces are one byte each, however they were written.
func TestP6_3Plain(t *testing.T) {
	eachByte(func(b byte, text string) {
		wantPlain(t, `\`+text, text)
		wantPlain(t, `\`+text+`z\`+text, text+"z"+text)
		wantPlain(t, `[\`+text+`]`, text)
		wantNotPlain(t, `[\`+text+`a`+text+`b]`)
		wantNotPlain(t, `\`+text+"*")
		wantNotPlain(t, `?\`+text)
		wantNotPlain(t, `[^\`+text+`]`)
		if !isSign(b) {
			wantPlain(t, text, text)
			wantPlain(t, text+"a"+text, text+"a"+text)
		}
	})
	for text, want := range map[string]string{
		"": "", "a": "a", "abc": "abc", "aaa": "aaa", "ba": "ba", "zyx\x00\xff": "zyx\x00\xff", "a/b c": "a/b c", "é": "é", "\xc3": "\xc3", "[": "[", "[a": "[a", "]": "]", "[]": "[]", "[z-a]": "[z-a]", `\`: `\`, `a\`: `a\`, `\*`: "*", `\?a\[`: "?a[", `\\`: `\`, `\\\`: `\\`, `\[a]`: "[a]",
		"[a]": "a", "[aaa]": "a", "[a-a]": "a", "[a][b]": "ab", "[*]": "*", "x[?]y": "x?y", "[]]": "]", "[[]": "[", `[\\]`: `\`, "[!\x00-\xfe]": "\xff", "[^\x01-\xff]": "\x00", `[z-\a]`: "[z-a]",
	} {
		wantPlain(t, text, want)
	}
	for _, text := range []string{"*", "?", "**", "a*", "*a", "a?b", "abc*", "abc?", "[ab]", "[a-b]", "x[ab]", "[ab]x", "[^a]", "[!a]", "[[:digit:]]", "[^\x00-\xff]", "a[^\x00-\xff]", "[^\x00-\xff]a", "[\x00-\xff]", `\**`, `[*`, "[?a", "a[bc]d", "[^\x00-\xff][ab]", "[ab][^\x00-\xff]", "[^\x00-\xff][^\x00-\xff]", "a*[^\x00-\xff]b", "ab[cd]"} {
		wantNotPlain(t, text)
	}
}

// TestP6_3Quote: a \ ahead of each of the four signs, and of nothing else.
func TestP6_3Quote(t *testing.T) {
	eachByte(func(b byte, text string) {
		want := text
		if isSign(b) {
			want = `\` + text
		}
		if got := glob.Quote(text); got != want {
			t.Errorf("Quote(%q): %q, want %q", text, got, want)
		}
		if got := glob.Quote("a" + text + text); got != "a"+want+want {
			t.Errorf("Quote(%q): %q, want %q", "a"+text+text, got, "a"+want+want)
		}
	})
	for text, want := range map[string]string{
		"": "", "abc": "abc", "a b\n": "a b\n", "*": `\*`, "?": `\?`, "[": `\[`, `\`: `\\`, "]": "]", "*?[\\": `\*\?\[\\`, "[a-z]": `\[a-z]`, "[!a]*": `\[!a]\*`, `\*`: `\\\*`, `a\`: `a\\`, "**": `\*\*`, "^!-{}": "^!-{}", "é": "é", "\xc3*\xa9": "\xc3\\*\xa9", "\x00\xff": "\x00\xff",
	} {
		if got := glob.Quote(text); got != want {
			t.Errorf("Quote(%q): %q, want %q", text, got, want)
		}
	}
	if long := strings.Repeat("a*", 1000); glob.Quote(long) != strings.Repeat(`a\*`, 1000) {
		t.Error("Quote of a long text")
	}
}

// TestExamples: what the document shows.
func TestExamples(t *testing.T) {
	wantText(t, "a*?[b-d]", "[61] * ? [62-64]")
	wantText(t, "[a", "[5b] [61]")
	wantText(t, `\*`, "[2a]")
	wantText(t, "[z-a]", "[5b] [7a] [2d] [61] [5d]")
	wantText(t, `a\`, "[61] [5c]")
}

// TestNil: a nil pattern tells zero values, which the empty pattern's are not.
func TestNil(t *testing.T) {
	var p *glob.Pattern
	if text, ok := p.Plain(); text != "" || ok || p.Text() != "" || len(p.Pieces()) != 0 {
		t.Errorf("nil: %q %v %q %v", text, ok, p.Text(), p.Pieces())
	}
	if text, ok := new(glob.Pattern).Plain(); text != "" || !ok {
		t.Errorf("no pieces: %q %v", text, ok)
	}
}

// TestKept: the bytes stay as they are and are not kept, and what lies behind their length is not read.
func TestKept(t *testing.T) {
	b := []byte(`a[b-d]*\?]`)
	want := `[61] [62-64] * [3f]`
	p, err := glob.Parse(b[:9:9])
	if err != nil || p.Text() != want || string(b) != `a[b-d]*\?]` {
		t.Errorf("%q: %s %v", b, p.Text(), err)
	}
	copy(b, "zzzzzzzzzz")
	if p.Text() != want {
		t.Error("the bytes changed, and the pattern with them:", p.Text())
	}
	b = []byte(`ab`)
	p, _ = glob.Parse(b)
	copy(b, "zz")
	if text, ok := p.Plain(); text != "ab" || !ok {
		t.Errorf("the bytes changed, and the pattern with them: %q %v", text, ok)
	}
	for text, length := range map[string]int{"[ab]": 3, `a\*`: 2, "[[:digit:]]": 10} {
		if p, err := glob.Parse([]byte(text)[:length]); err != nil || p.Text() != parse(t, text[:length]).Text() {
			t.Errorf("what lies behind the length of %q is read: %s %v", text, p.Text(), err)
		}
	}
	long := []byte(strings.Repeat("a", 300))
	if p, err := glob.Parse(long[:256]); p == nil || err != nil {
		t.Error("256 of 300 bytes:", err)
	}
}

// TestMany: calls at one time are as one behind the other.
func TestMany(t *testing.T) {
	b := []byte(`[a-c]*\?`)
	shared := parse(t, string(b))
	var all sync.WaitGroup
	for range 8 {
		all.Go(func() {
			for range 200 {
				p, err := glob.Parse(b)
				if err != nil || p.Text() != "[61-63] * [3f]" || shared.Text() != p.Text() || !slices.Equal(shared.Pieces(), p.Pieces()) || glob.Quote("a*") != `a\*` {
					t.Error(p.Text(), err)
				}
			}
		})
	}
	all.Wait()
}
