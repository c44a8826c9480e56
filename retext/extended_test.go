package retext_test

import (
	"strings"
	"testing"

	"pidgin/api"
)

// TestP8_1ExtendedBytes: which bytes are themselves in the extended grammar, alone, beside one another and repeated.
func TestP8_1ExtendedBytes(t *testing.T) {
	eachByte(func(b byte, text string) {
		switch text {
		case ".", "[", `\`, "(", "|":
			return
		case "*", "+", "?", "{":
			wantFault(t, text, extended, api.CodeSyntax, 0)
			wantFault(t, "a|"+text, extended, api.CodeSyntax, 2)
			return
		case ")":
			wantFault(t, text, extended, api.CodeGroup, 0)
			return
		case "^", "$":
			wantText(t, text, extended, text)
			wantText(t, text+text, extended, "(cat "+text+" "+text+")")
			wantText(t, "a"+text+"b", extended, "(cat [61] "+text+" [62])")
			return
		}
		wantText(t, text, extended, hex(b))
		wantText(t, text+text, extended, hexes(text+text))
		wantText(t, "a"+text+"b", extended, hexes("a"+text+"b"))
		wantText(t, text+"*", extended, "(rep 0 - "+hex(b)+")")
		wantText(t, "^"+text+"$", extended, "(cat ^ "+hex(b)+" $)")
		wantText(t, "("+text+"|"+text+")", extended, "(group 1 (alt "+hex(b)+" "+hex(b)+"))")
	})
	wantText(t, "日", extended, "(cat [e6] [97] [a5])")
	wantText(t, "]}/", extended, hexes("]}/"))
}

// TestP8_1ExtendedEscapes: which bytes a backslash may quote, and what becomes of the others.
func TestP8_1ExtendedEscapes(t *testing.T) {
	eachByte(func(b byte, text string) {
		switch {
		case strings.Contains(`.[]()*+?{}|^$/\`, text):
			wantText(t, `\`+text, extended, hex(b))
			wantText(t, `a\`+text+`\`+text+"b", extended, hexes("a"+text+text+"b"))
			wantText(t, `\`+text+"+", extended, "(rep 1 - "+hex(b)+")")
			wantText(t, `(\`+text+")", extended, "(group 1 "+hex(b)+")")
			wantText(t, `^\`+text+`|\`+text, extended, "(alt (cat ^ "+hex(b)+") "+hex(b)+")")
		case text == "n":
			wantText(t, `\n`, extended, "[0a]")
			wantText(t, `\n?n`, extended, "(cat (rep 0 1 [0a]) [6e])")
		default:
			wantFault(t, `\`+text, extended, api.CodeEscape, 0)
			wantFault(t, `ab*\`+text+`c\`, extended, api.CodeEscape, 3)
			wantFault(t, `(\`+text+")", extended, api.CodeEscape, 1)
			wantFault(t, `^|\`+text, extended, api.CodeEscape, 2)
		}
	})
	wantFault(t, `\`, extended, api.CodeEscape, 0)
	wantFault(t, `a\`, extended, api.CodeEscape, 1)
	wantFault(t, `\\\`, extended, api.CodeEscape, 2)
	wantFault(t, `(\`, extended, api.CodeEscape, 1)
	wantText(t, `\(\)\{2\}`, extended, hexes("(){2}"))
	wantText(t, `\\(a)`, extended, "(cat [5c] (group 1 [61]))")
	wantText(t, `\.[.]\[`, extended, "(cat [2e] [2e] [5b])")
}

// TestP8_1ExtendedBranches: branches, their items, and the anchors, which are anchors everywhere.
func TestP8_1ExtendedBranches(t *testing.T) {
	for text, want := range map[string]string{
		"a": "[61]", "ab": "(cat [61] [62])", "a|b": "(alt [61] [62])", "a|b|c": "(alt [61] [62] [63])", "ab|cd": "(alt (cat [61] [62]) (cat [63] [64]))", "a|a|a|a": "(alt [61] [61] [61] [61])", "a|bc*|d": "(alt [61] (cat [62] (rep 0 - [63])) [64])",
		"(a|b)|c": "(alt (group 1 (alt [61] [62])) [63])", "a|(b|c)": "(alt [61] (group 1 (alt [62] [63])))", "(a)|(b)": "(alt (group 1 [61]) (group 2 [62]))", "(a|b)(c|d)": "(cat (group 1 (alt [61] [62])) (group 2 (alt [63] [64])))", "((a|b)|(c))d": "(cat (group 1 (alt (group 2 (alt [61] [62])) (group 3 [63]))) [64])", "x(a)y": "(cat [78] (group 1 [61]) [79])", "((a))": "(group 1 (group 2 [61]))", "(a(b))(c)": "(cat (group 1 (cat [61] (group 2 [62]))) (group 3 [63]))",
		"^": "^", "$": "$", "^$": "(cat ^ $)", "$^": "(cat $ ^)", "^^": "(cat ^ ^)", "a^b$c": "(cat [61] ^ [62] $ [63])", "^|$": "(alt ^ $)", "(^)": "(group 1 ^)", "($)": "(group 1 $)", "(^a$)": "(group 1 (cat ^ [61] $))", "^a|b$": "(alt (cat ^ [61]) (cat [62] $))", "(^)*": "(rep 0 - (group 1 ^))", "($|a)+": "(rep 1 - (group 1 (alt $ [61])))", "^(a)$": "(cat ^ (group 1 [61]) $)", "^.": "(cat ^ .)", "$[a]": "(cat $ [61])",
		".": ".", ".|.": "(alt . .)", ".a.": "(cat . [61] .)",
	} {
		wantText(t, text, extended, want)
	}
}

// TestP8_1ExtendedPieces: what is repeated, how often, and in what order.
func TestP8_1ExtendedPieces(t *testing.T) {
	for text, want := range map[string]string{
		"a*": "(rep 0 - [61])", "a+": "(rep 1 - [61])", "a?": "(rep 0 1 [61])", "a**": "(rep 0 - (rep 0 - [61]))", "a*+?": "(rep 0 1 (rep 1 - (rep 0 - [61])))", "a?+*": "(rep 0 - (rep 1 - (rep 0 1 [61])))", "ab*": "(cat [61] (rep 0 - [62]))", "a+b?": "(cat (rep 1 - [61]) (rep 0 1 [62]))", ".?": "(rep 0 1 .)", "[ab]+": "(rep 1 - [61-62])", "]+": "(rep 1 - [5d])", "}?": "(rep 0 1 [7d])",
		"a{2}": "(rep 2 2 [61])", "a{2,}": "(rep 2 - [61])", "a{2,5}": "(rep 2 5 [61])", "a{0}": "(rep 0 0 [61])", "a{0,0}": "(rep 0 0 [61])", "a{0,}": "(rep 0 - [61])", "a{255,255}": "(rep 255 255 [61])", "a{007,08}": "(rep 7 8 [61])", "a{000}": "(rep 0 0 [61])",
		"a*{2}+": "(rep 1 - (rep 2 2 (rep 0 - [61])))", "a{1}{2,}{3,4}": "(rep 3 4 (rep 2 - (rep 1 1 [61])))", "ab{2}c": "(cat [61] (rep 2 2 [62]) [63])", "(ab){2}": "(rep 2 2 (group 1 (cat [61] [62])))", "(a|b)+": "(rep 1 - (group 1 (alt [61] [62])))", "(a*|b+)?c": "(cat (rep 0 1 (group 1 (alt (rep 0 - [61]) (rep 1 - [62])))) [63])", "a{2}}": "(cat (rep 2 2 [61]) [7d])", "((a)*)*": "(rep 0 - (group 1 (rep 0 - (group 2 [61]))))", "a|b*": "(alt [61] (rep 0 - [62]))", `\**`: "(rep 0 - [2a])", "[*]*": "(rep 0 - [2a])",
	} {
		wantText(t, text, extended, want)
	}
}

// TestP8_1ExtendedFaults: what is refused, and where; of several faults the first.
func TestP8_1ExtendedFaults(t *testing.T) {
	for _, c := range []struct {
		text      string
		code, pos int
	}{
		{"", api.CodeSyntax, 0}, {"(", api.CodeSyntax, 1}, {"()", api.CodeSyntax, 1}, {"a()b", api.CodeSyntax, 2}, {"((", api.CodeSyntax, 2}, {"(()", api.CodeSyntax, 2}, {"(a|)", api.CodeSyntax, 3}, {"(|a)", api.CodeSyntax, 1}, {"(a|", api.CodeSyntax, 3}, {"(a(", api.CodeSyntax, 3},
		{"|", api.CodeSyntax, 0}, {"|a", api.CodeSyntax, 0}, {"a|", api.CodeSyntax, 2}, {"a||b", api.CodeSyntax, 2}, {"a|b|", api.CodeSyntax, 4}, {"||", api.CodeSyntax, 0},
		{"*", api.CodeSyntax, 0}, {"+a", api.CodeSyntax, 0}, {"?", api.CodeSyntax, 0}, {"{", api.CodeSyntax, 0}, {"{1}", api.CodeSyntax, 0}, {"{2,1}", api.CodeSyntax, 0}, {"a|*", api.CodeSyntax, 2}, {"a|+b", api.CodeSyntax, 2}, {"a|?", api.CodeSyntax, 2}, {"a|{1}", api.CodeSyntax, 2}, {"(*)", api.CodeSyntax, 1}, {"(+a)", api.CodeSyntax, 1}, {"(?", api.CodeSyntax, 1}, {"({1}", api.CodeSyntax, 1}, {"a(*", api.CodeSyntax, 2},
		{"^*", api.CodeSyntax, 1}, {"^+", api.CodeSyntax, 1}, {"^?", api.CodeSyntax, 1}, {"^{1}", api.CodeSyntax, 1}, {"$*", api.CodeSyntax, 1}, {"$+", api.CodeSyntax, 1}, {"$?", api.CodeSyntax, 1}, {"${", api.CodeSyntax, 1}, {"a^*", api.CodeSyntax, 2}, {"a$?b", api.CodeSyntax, 2}, {"(^*)", api.CodeSyntax, 2}, {"^|$*", api.CodeSyntax, 3}, {"^$+", api.CodeSyntax, 2},
		{")", api.CodeGroup, 0}, {"a)", api.CodeGroup, 1}, {"a|)", api.CodeGroup, 2}, {"^)", api.CodeGroup, 1}, {"(a))", api.CodeGroup, 3}, {"(a)|)", api.CodeGroup, 4}, {"((a)b))c", api.CodeGroup, 6}, {"a*)", api.CodeGroup, 2}, {"))", api.CodeGroup, 0},
		{"(a", api.CodeGroup, 2}, {"(^", api.CodeGroup, 2}, {"(a|b", api.CodeGroup, 4}, {"(a(b)", api.CodeGroup, 5}, {"(a(b", api.CodeGroup, 4}, {"x(a{2}", api.CodeGroup, 6}, {`(a\)`, api.CodeGroup, 4}, {"((a)", api.CodeGroup, 4},
		{`a\q`, api.CodeEscape, 1}, {`(a)\1`, api.CodeEscape, 3}, {`\-`, api.CodeEscape, 0}, {`a|\<`, api.CodeEscape, 2},
		{"[", api.CodeBracket, 1}, {"[a", api.CodeBracket, 2}, {"a[]", api.CodeBracket, 3}, {"([a)", api.CodeBracket, 4}, {"ab[z-a]", api.CodeRange, 3}, {"[[:x:]]", api.CodeBracket, 1}, {"a[[.b.]]", api.CodeBracket, 2}, {"a[[=b=]]", api.CodeBracket, 2}, {"x[a-[:digit:]]", api.CodeBracket, 4}, {`[\]\`, api.CodeEscape, 3},
		{`\q)`, api.CodeEscape, 0}, {`)\q`, api.CodeGroup, 0}, {`*\q`, api.CodeSyntax, 0}, {`a|*(`, api.CodeSyntax, 2}, {"a{9,1}[", api.CodeRange, 1}, {"[z-a])", api.CodeRange, 1}, {`(\q`, api.CodeEscape, 1}, {"a)[", api.CodeGroup, 1}, {"(a|*b", api.CodeSyntax, 3},
	} {
		wantFault(t, c.text, extended, c.code, c.pos)
		if c.pos < len(c.text) && !strings.HasSuffix(c.text, `\`) { // what follows is not read any more
			wantFault(t, c.text+`\q*)[`, extended, c.code, c.pos)
		}
	}
}
