package arith_test

import (
	"strings"
	"testing"

	"pidgin/api"
	"pidgin/arith"
	"pidgin/fault"
)

// The tests of this file hold all short rows of tokens, and many long ones, against two readings of the grammar that know nothing of one another: a machine that tells where the first fault is, and a splitter that tells the text of what has none.

const assigning = " = <<= >>= += -= *= /= %= &= ^= |= "

func isAssigning(token string) bool { return strings.Contains(assigning, " "+token+" ") }
func isUnary(token string) bool     { return strings.Contains("+-!~", token) }
func isName(token string) bool {
	return token[0] >= 'A' && token[0] != '^' && token[0] != '|' && token[0] != '~'
}
func isConstant(token string) bool { return '0' <= token[0] && token[0] <= '9' }

// strengthOf tells how strongly an operator between operands binds, 0 of what is none.
func strengthOf(token string) int {
	for i, row := range strings.Split("||;&&;|;^;&;== !=;< <= > >=;<< >>;+ -;* / %", ";") {
		if strings.Contains(" "+row+" ", " "+token+" ") {
			return i + 1
		}
	}
	return 0
}

// faultAt tells which of the tokens is the first that may not stand where it does (their number, if one must follow), or -1.
func faultAt(tokens []string) int {
	var open []string // the parentheses and ? that wait for their other one
	operand, begins, settable := true, true, false
	for i, token := range tokens {
		switch {
		case operand && isUnary(token):
			begins = false
		case operand && token == "(":
			open, begins = append(open, ")"), true
		case operand && (isName(token) || isConstant(token)):
			operand, settable = false, begins && isName(token)
		case operand:
			return i
		case strengthOf(token) > 0:
			operand, begins = true, false
		case settable && isAssigning(token):
			operand, begins = true, true
		case token == "?":
			open, operand, begins = append(open, ":"), true, true
		case len(open) > 0 && open[len(open)-1] == token:
			open, operand, begins, settable = open[:len(open)-1], token == ":", false, false
		default:
			return i
		}
		if operand {
			settable = false
		}
	}
	if operand || len(open) > 0 {
		return len(tokens)
	}
	return -1
}

// textOf tells the text of the expression that the tokens are.
func textOf(tokens []string) string {
	if len(tokens) > 1 && isName(tokens[0]) && isAssigning(tokens[1]) {
		return "(" + tokens[1] + " " + tokens[0] + " " + textOf(tokens[2:]) + ")"
	}
	deep := 0
	for i, token := range tokens {
		switch {
		case token == "(":
			deep++
		case token == ")":
			deep--
		case token == "?" && deep == 0:
			colon := i + other(tokens[i:])
			return "(? " + binText(tokens[:i]) + " " + textOf(tokens[i+1:colon]) + " " + textOf(tokens[colon+1:]) + ")"
		}
	}
	return binText(tokens)
}

// other tells where the : of the ? that the tokens begin with is.
func other(tokens []string) int {
	deep := 0
	for i, token := range tokens {
		switch token {
		case "(", "?":
			deep++
		case ")", ":":
			deep--
		}
		if deep == 0 {
			return i
		}
	}
	return -1
}

// binText splits the tokens at the last of the weakest operators that no parenthesis holds.
func binText(tokens []string) string {
	at, deep, operand := -1, 0, true
	for i, token := range tokens {
		switch {
		case token == "(":
			deep++
		case token == ")":
			deep--
		case deep == 0 && !operand && (at < 0 || strengthOf(token) <= strengthOf(tokens[at])):
			at = i
		}
		operand = !(token == ")" || isName(token) || isConstant(token))
	}
	switch {
	case at >= 0:
		return "(" + tokens[at] + " " + binText(tokens[:at]) + " " + binText(tokens[at+1:]) + ")"
	case tokens[0] == "(":
		return textOf(tokens[1 : len(tokens)-1])
	case len(tokens) == 1:
		return tokens[0]
	case tokens[0] == "+" || tokens[0] == "-":
		return "(u" + tokens[0] + " " + binText(tokens[1:]) + ")"
	}
	return "(" + tokens[0] + " " + binText(tokens[1:]) + ")"
}

// check holds what Parse tells of the tokens against both.
func check(t *testing.T, tokens []string) {
	t.Helper()
	text := strings.Join(tokens, " ")
	bad := faultAt(tokens)
	if bad < 0 {
		e, err := arith.Parse([]byte(text))
		if want := textOf(tokens); err != nil || e.Text() != want {
			t.Fatalf("%q: %q, %s, want %q", text, e.Text(), fault.Text(fault.Tell(err)), want)
		}
		checkCounts(t, text, e, tokens)
		return
	}
	pos := len(text)
	if bad < len(tokens) {
		pos = len(strings.Join(append(append([]string{}, tokens[:bad]...), ""), " "))
	}
	e, err := arith.Parse([]byte(text))
	if told := fault.Tell(err); e != nil || told != (api.Fault{Code: api.CodeSyntax, Pos: pos, Lang: api.LangArith}) {
		t.Fatalf("%q: %q, %s, want %d", text, e.Text(), fault.Text(told), pos)
	}
}

// checkCounts: the size, at most the length; as many parentheses as operators (P3.5).
func checkCounts(t *testing.T, text string, e *arith.Expr, tokens []string) {
	t.Helper()
	size, operators := 0, 0
	for _, token := range tokens {
		if strings.Contains("():", token) {
			continue
		}
		size++
		if !isName(token) && !isConstant(token) {
			operators++
		}
	}
	tight := len(strings.Join(tokens, ""))
	if e.Size() != size || size > tight || strings.Count(e.Text(), "(") != operators || strings.Count(e.Text(), ")") != operators {
		t.Fatalf("%q: size %d, want %d of %d; %q with %d operators", text, e.Size(), size, tight, e.Text(), operators)
	}
}

// TestP3_1Rows: all short rows of tokens of each kind.
func TestP3_1Rows(t *testing.T) {
	kinds := []string{"a", "1", "(", ")", "?", ":", "=", "+", "*", "!"}
	var rows func(tokens []string, left int)
	rows = func(tokens []string, left int) {
		check(t, tokens)
		if left == 0 {
			return
		}
		for _, kind := range kinds {
			rows(append(tokens[:len(tokens):len(tokens)], kind), left-1)
		}
	}
	rows(nil, 5)
}

// TestP3_5Long: long rows, most of them expressions, some with one token put in another's place.
func TestP3_5Long(t *testing.T) {
	all := strings.Fields("a b 1 23 ( ) ? : || && | ^ & == != < <= > >= << >> + - * / % ! ~ = <<= >>= += -= *= /= %= &= ^= |=")
	state := uint64(88172645463325252)
	next := func(n int) int { // numbers that are the same each time
		state ^= state << 13
		state ^= state >> 7
		state ^= state << 17
		return int(state % uint64(n))
	}
	read := 0
	for range 6000 {
		var tokens []string
		for range 60 {
			token := all[next(len(all))]
			if at := faultAt(append(tokens[:len(tokens):len(tokens)], token)); at < 0 || at == len(tokens)+1 {
				tokens = append(tokens, token)
			}
		}
		for len(tokens) > 0 && faultAt(tokens) >= 0 && next(8) > 0 {
			tokens = tokens[:len(tokens)-1]
		}
		check(t, tokens)
		if len(tokens) == 0 {
			continue
		}
		if faultAt(tokens) < 0 {
			read++
		}
		tokens[next(len(tokens))] = all[next(len(all))]
		check(t, tokens)
	}
	if read < 1500 {
		t.Errorf("only %d expressions", read)
	}
}
