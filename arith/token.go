package arith

import (
	"strings"

	"pidgin/scan"
)

// Kinds of tokens.
const (
	atEnd    = iota // nothing is left
	unknown         // a byte that begins no token
	constant        // its value is num
	name            // it is text
	operator        // it is text
)

// token is what stands in a text from start to end.
type token struct {
	kind  int
	start int
	end   int
	text  string
	num   int64
	over  bool // a constant that is too great
}

// tokenAt tells the first token of b from the place at on, behind white space.
func tokenAt(b []byte, at int) token {
	for at < len(b) && isWhite(b[at]) {
		at++
	}
	rest := b[at:]
	if len(rest) == 0 {
		return token{kind: atEnd, start: at, end: at}
	}
	if length := scan.Name(rest); length > 0 {
		return token{kind: name, start: at, end: at + length, text: string(rest[:length])}
	}
	if num, length, over := scan.Const(rest); length > 0 {
		return token{kind: constant, start: at, end: at + length, num: num, over: over}
	}
	if text := operatorAt(rest); text != "" {
		return token{kind: operator, start: at, end: at + len(text), text: text}
	}
	return token{kind: unknown, start: at, end: at}
}

// operatorAt tells the longest operator at the beginning of b; nothing, if there is none.
func operatorAt(b []byte) string {
	longestFirst := [...]string{
		"<<=", ">>=",
		"+=", "-=", "*=", "/=", "%=", "&=", "^=", "|=", "<<", ">>", "<=", ">=", "==", "!=", "&&", "||",
		"(", ")", "~", "!", "+", "-", "*", "/", "%", "<", ">", "&", "^", "|", "?", ":", "=",
	}
	for _, text := range longestFirst {
		if len(text) <= len(b) && string(b[:len(text)]) == text {
			return text
		}
	}
	return ""
}

// isAssigning tells whether an operator sets the name ahead of it.
func isAssigning(text string) bool {
	switch text {
	case "<=", ">=", "==", "!=":
		return false
	}
	return strings.HasSuffix(text, "=")
}

// isWhite tells whether c may stand between tokens.
func isWhite(c byte) bool {
	return c == ' ' || c == '\t' || c == '\n'
}

// goesOn tells whether what stands at the place at would go on a word that ended there.
func goesOn(b []byte, at int) bool {
	return at < len(b) && ('0' <= b[at] && b[at] <= '9' || scan.Name(b[at:]) > 0)
}
