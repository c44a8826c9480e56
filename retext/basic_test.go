package retext_test

import (
	"strings"
	"testing"

	"pidgin/api"
)

// TestP8_1BasicBytes: which bytes are themselves in the basic grammar, alone, beside one another and repeated.
func TestP8_1BasicBytes(t *testing.T) {
	eachByte(func(b byte, text string) {
		switch text {
		case ".", "[", `\`:
			return
		case "^", "$", "*":
			wantText(t, "a"+text+"b", basic, map[string]string{"^": hexes("a^b"), "$": hexes("a$b"), "*": "(cat (rep 0 - [61]) [62])"}[text])
			return
		}
		wantText(t, text, basic, hex(b))
		wantText(t, text+text, basic, hexes(text+text))
		wantText(t, "a"+text+"b", basic, hexes("a"+text+"b"))
		wantText(t, text+"*", basic, "(rep 0 - "+hex(b)+")")
		wantText(t, "^"+text+"$", basic, "(cat ^ "+hex(b)+" $)")
		wantText(t, `\(`+text+`\)`, basic, "(group 1 "+hex(b)+")")
	})
	wantText(t, "日", basic, "(cat [e6] [97] [a5])")
	wantText(t, "(a|b)+?{2}", basic, hexes("(a|b)+?{2}"))
}

// TestP8_1BasicEscapes: which bytes a backslash may quote, and what becomes of the others.
func TestP8_1BasicEscapes(t *testing.T) {
	eachByte(func(b byte, text string) {
		switch {
		case strings.Contains(`.[]*^$/\`, text):
			wantText(t, `\`+text, basic, hex(b))
			wantText(t, `a\`+text+`\`+text+"b", basic, hexes("a"+text+text+"b"))
			wantText(t, `\`+text+"*", basic, "(rep 0 - "+hex(b)+")")
			wantText(t, `^\`+text+"$", basic, "(cat ^ "+hex(b)+" $)")
			wantText(t, `\(\`+text+`\)`, basic, "(group 1 "+hex(b)+")")
		case text == "n":
			wantText(t, `\n`, basic, "[0a]")
			wantText(t, `\n*n`, basic, "(cat (rep 0 - [0a]) [6e])")
		case !strings.Contains("(){}", text):
			wantFault(t, `\`+text, basic, api.CodeEscape, 0)
			wantFault(t, `ab*\`+text+`c\`, basic, api.CodeEscape, 3)
			wantFault(t, `\(\`+text+`\)`, basic, api.CodeEscape, 2)
			wantFault(t, `^\`+text, basic, api.CodeEscape, 1)
		}
	})
	wantFault(t, `\`, basic, api.CodeEscape, 0)
	wantFault(t, `a\`, basic, api.CodeEscape, 1)
	wantFault(t, `\\\`, basic, api.CodeEscape, 2)
	wantFault(t, `\(\`, basic, api.CodeEscape, 2)
	wantText(t, `\\`, basic, "[5c]")
	wantText(t, `\\(`, basic, hexes(`\(`))
	wantText(t, `\.[.]\[`, basic, "(cat [2e] [2e] [5b])")
}

// TestP8_1BasicAnchors: ^ begins just at the front, $ ends just at the end or ahead of \), * is a byte where there is nothing to repeat.
func TestP8_1BasicAnchors(t *testing.T) {
	for text, want := range map[string]string{
		"^": "^", "$": "$", "^$": "(cat ^ $)", "^^": "(cat ^ [5e])", "$$": "(cat [24] $)", "$^": "(cat [24] [5e])", "^^$$": "(cat ^ [5e] [24] $)", "$a": hexes("$a"), "a^": hexes("a^"), "a$": "(cat [61] $)", "^a": "(cat ^ [61])", "a^b$c": hexes("a^b$c"), "$$$": "(cat [24] [24] $)",
		"*": "[2a]", "**": "(rep 0 - [2a])", "***": "(rep 0 - (rep 0 - [2a]))", "^*": "(cat ^ [2a])", "^**": "(cat ^ (rep 0 - [2a]))", "*a": hexes("*a"), "*$": "(cat [2a] $)", "^*$": "(cat ^ [2a] $)", "$*": "(rep 0 - [24])", "a$*": "(cat [61] (rep 0 - [24]))", "^$*": "(cat ^ (rep 0 - [24]))", "a^*": "(cat [61] (rep 0 - [5e]))", "^^*": "(cat ^ (rep 0 - [5e]))", "$*$": "(cat (rep 0 - [24]) $)",
		`\(^\)`: "(group 1 ^)", `\($\)`: "(group 1 $)", `\(^$\)`: "(group 1 (cat ^ $))", `\(^a$\)`: "(group 1 (cat ^ [61] $))", `a\(^b$\)c`: "(cat [61] (group 1 (cat ^ [62] $)) [63])", `\(a\)^$`: "(cat (group 1 [61]) [5e] $)", `\(a\)$b`: "(cat (group 1 [61]) [24] [62])", `$\(a\)`: "(cat [24] (group 1 [61]))", `\($a\)`: "(group 1 (cat [24] [61]))", `\(a^\)`: "(group 1 (cat [61] [5e]))", `\(^^\)`: "(group 1 (cat ^ [5e]))", `\($$\)`: "(group 1 (cat [24] $))",
		`\(*\)`: "(group 1 [2a])", `\(*a\)*`: "(rep 0 - (group 1 (cat [2a] [61])))", `\(^*\)`: "(group 1 (cat ^ [2a]))", `\(**\)`: "(group 1 (rep 0 - [2a]))", `\(a\)*`: "(rep 0 - (group 1 [61]))", `^\(*\)`: "(cat ^ (group 1 [2a]))", `\(^\)*`: "(rep 0 - (group 1 ^))",
		`\^`: "[5e]", `\^a`: hexes("^a"), `a\$`: hexes("a$"), `\$`: "[24]", `^\^`: "(cat ^ [5e])", `\$$`: "(cat [24] $)", `\*`: "[2a]", `\**`: "(rep 0 - [2a])", `^\**`: "(cat ^ (rep 0 - [2a]))", `\^*`: "(rep 0 - [5e])", `a\**`: "(cat [61] (rep 0 - [2a]))",
		`$\{2\}`: "(rep 2 2 [24])", `*\{2\}`: "(rep 2 2 [2a])", `^*\{2\}`: "(cat ^ (rep 2 2 [2a]))", `^^\{2\}`: "(cat ^ (rep 2 2 [5e]))", `\(*\{2\}\)`: "(group 1 (rep 2 2 [2a]))", `a$\{1\}$`: "(cat [61] (rep 1 1 [24]) $)", `[$]$`: "(cat [24] $)", "^.": "(cat ^ .)", ".$": "(cat . $)", "$.": "(cat [24] .)", "$[a]": "(cat [24] [61])", `$\n`: "(cat [24] [0a])", `$\\`: "(cat [24] [5c])",
	} {
		wantText(t, text, basic, want)
	}
}

// TestP8_1BasicPieces: what is repeated, how often, and in what order.
func TestP8_1BasicPieces(t *testing.T) {
	for text, want := range map[string]string{
		"a*": "(rep 0 - [61])", "a**": "(rep 0 - (rep 0 - [61]))", "ab*": "(cat [61] (rep 0 - [62]))", "a*b": "(cat (rep 0 - [61]) [62])", ".*": "(rep 0 - .)", "[ab]*": "(rep 0 - [61-62])", `\n*`: "(rep 0 - [0a])",
		`a\{2\}`: "(rep 2 2 [61])", `a\{2,\}`: "(rep 2 - [61])", `a\{2,5\}`: "(rep 2 5 [61])", `a\{0\}`: "(rep 0 0 [61])", `a\{0,0\}`: "(rep 0 0 [61])", `a\{0,\}`: "(rep 0 - [61])", `a\{255,255\}`: "(rep 255 255 [61])", `a\{007,08\}`: "(rep 7 8 [61])", `a\{000\}`: "(rep 0 0 [61])",
		`a*\{2\}*`: "(rep 0 - (rep 2 2 (rep 0 - [61])))", `a\{1\}\{2,\}\{3,4\}`: "(rep 3 4 (rep 2 - (rep 1 1 [61])))", `ab\{2\}c`: "(cat [61] (rep 2 2 [62]) [63])", `\(ab\)\{2\}`: "(rep 2 2 (group 1 (cat [61] [62])))", `\(a*\)\{2,3\}b`: "(cat (rep 2 3 (group 1 (rep 0 - [61]))) [62])", `a{2}`: hexes("a{2}"), `a\{2\}}`: "(cat (rep 2 2 [61]) [7d])", `a{\{2\}`: "(cat [61] (rep 2 2 [7b]))",
		`\(a\)\(b\)`: "(cat (group 1 [61]) (group 2 [62]))", `\(a\(b\)\)\(c\)`: "(cat (group 1 (cat [61] (group 2 [62]))) (group 3 [63]))", `\(\(a\)\)`: "(group 1 (group 2 [61]))", `\(\(a\)*\)*`: "(rep 0 - (group 1 (rep 0 - (group 2 [61]))))", `x\(a\)y`: "(cat [78] (group 1 [61]) [79])",
	} {
		wantText(t, text, basic, want)
	}
}

// TestP8_1BasicFaults: what is refused, and where; of several faults the first.
func TestP8_1BasicFaults(t *testing.T) {
	for _, c := range []struct {
		text      string
		code, pos int
	}{
		{"", api.CodeSyntax, 0}, {`\)`, api.CodeSyntax, 0}, {`\(`, api.CodeSyntax, 2}, {`\(\)`, api.CodeSyntax, 2}, {`a\(\)b`, api.CodeSyntax, 3}, {`\(a\(`, api.CodeSyntax, 5}, {`\(\(\)\)`, api.CodeSyntax, 4}, {`\)\)`, api.CodeSyntax, 0},
		{`\{`, api.CodeSyntax, 0}, {`\{2\}`, api.CodeSyntax, 0}, {`\{x`, api.CodeSyntax, 0}, {`^\{2\}`, api.CodeSyntax, 1}, {`^\{`, api.CodeSyntax, 1}, {`\(\{1\}\)`, api.CodeSyntax, 2}, {`\(^\{1\}\)`, api.CodeSyntax, 3}, {`a\(\{9,1\}`, api.CodeSyntax, 3},
		{`\}`, api.CodeSyntax, 0}, {`a\}`, api.CodeSyntax, 1}, {`^\}`, api.CodeSyntax, 1}, {`\(\}`, api.CodeSyntax, 2}, {`a*\}`, api.CodeSyntax, 2}, {`a\{1\}\}`, api.CodeSyntax, 6}, {`a$\}`, api.CodeSyntax, 2},
		{`a\)`, api.CodeGroup, 1}, {`^\)`, api.CodeGroup, 1}, {`$\)`, api.CodeGroup, 1}, {`*\)`, api.CodeGroup, 1}, {`\(a\)\)`, api.CodeGroup, 5}, {`\(\(a\)\)\)x`, api.CodeGroup, 9}, {`a*\)\`, api.CodeGroup, 2},
		{`\(a`, api.CodeGroup, 3}, {`\(^`, api.CodeGroup, 3}, {`\($`, api.CodeGroup, 3}, {`\(*`, api.CodeGroup, 3}, {`\(a\(b\)`, api.CodeGroup, 8}, {`\(a\(b`, api.CodeGroup, 6}, {`x\(a\{2\}`, api.CodeGroup, 9}, {`\(a\\)`, api.CodeGroup, 6},
		{`a\|b`, api.CodeEscape, 1}, {`a\+`, api.CodeEscape, 1}, {`a\?`, api.CodeEscape, 1}, {`\(a\)\1`, api.CodeEscape, 5}, {`\]\q`, api.CodeEscape, 2},
		{`[`, api.CodeBracket, 1}, {`[a`, api.CodeBracket, 2}, {`a[]`, api.CodeBracket, 3}, {`\([a\)`, api.CodeBracket, 6}, {`ab[z-a]`, api.CodeRange, 3}, {`[[:x:]]`, api.CodeBracket, 1}, {`a[[.b.]]`, api.CodeBracket, 2}, {`a[[=b=]]`, api.CodeBracket, 2}, {`x[a-[:digit:]]`, api.CodeBracket, 4}, {`[\]\`, api.CodeEscape, 3},
		{`\q\)`, api.CodeEscape, 0}, {`a\)\q`, api.CodeGroup, 1}, {`\{\q`, api.CodeSyntax, 0}, {`a\{9,1\}[`, api.CodeRange, 1}, {`[z-a]\)`, api.CodeRange, 1}, {`\(\q`, api.CodeEscape, 2}, {`$\q`, api.CodeEscape, 1},
	} {
		wantFault(t, c.text, basic, c.code, c.pos)
		if c.pos < len(c.text) && !strings.HasSuffix(c.text, `\`) { // what follows is not read any more
			wantFault(t, c.text+`\q\{[`, basic, c.code, c.pos)
		}
	}
}
