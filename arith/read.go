package arith

import (
	"slices"

	"pidgin/api"
	"pidgin/fault"
)

// What the tree calls the parts that are no operators.
const (
	opNum  = "num"
	opName = "name"
)

// reader goes over the tokens of b, one ahead of what it has taken.
type reader struct {
	b    []byte
	next token
}

// read tells the expression that the whole of b is; it panics with the first error.
func read(b []byte) api.Arith {
	r := &reader{b: b, next: tokenAt(b, 0)}
	whole := r.expr()
	if r.next.kind != atEnd {
		r.refuse()
	}
	return whole
}

// expr reads an assignment or a condition.
func (r *reader) expr() api.Arith {
	if r.next.kind != name {
		return r.cond()
	}
	op := tokenAt(r.b, r.next.end)
	if !isAssigning(op.text) {
		return r.cond()
	}
	target := r.take()
	r.take()
	return api.Arith{Op: op.text, Name: target.text, Pos: target.start, APos: op.start, Kids: []api.Arith{r.expr()}}
}

// cond reads operands, and the two sides of ? : if they have one.
func (r *reader) cond() api.Arith {
	asked := r.bin(1)
	if r.next.text != "?" {
		return asked
	}
	op := r.take()
	yes := r.expr()
	r.takeText(":")
	no := r.cond()
	return api.Arith{Op: op.text, Pos: op.start, Kids: []api.Arith{asked, yes, no}}
}

// bin reads operands with operators between them that are at least as strong as least.
func (r *reader) bin(least int) api.Arith {
	left := r.operand()
	for strength(r.next.text) >= least {
		op := r.take()
		right := r.bin(strength(op.text) + 1)
		left = api.Arith{Op: op.text, Pos: op.start, Kids: []api.Arith{left, right}}
	}
	return left
}

// operand reads a constant, a name, a parenthesis, or an operator of one operand with its operand.
func (r *reader) operand() api.Arith {
	switch r.next.kind {
	case constant:
		return r.constant()
	case name:
		word := r.take()
		return api.Arith{Op: opName, Name: word.text, Pos: word.start}
	}
	switch op := unary(r.next.text); {
	case op != "":
		start := r.take().start
		return api.Arith{Op: op, Pos: start, Kids: []api.Arith{r.operand()}}
	case r.next.text == "(":
		r.take()
		inner := r.expr()
		r.takeText(")")
		return inner
	}
	r.refuse()
	return api.Arith{}
}

// constant reads a constant.
func (r *reader) constant() api.Arith {
	if r.next.over {
		r.refuse()
	}
	if goesOn(r.b, r.next.end) {
		panic(refusal(api.CodeSyntax, r.next.end))
	}
	number := r.take()
	return api.Arith{Op: opNum, Num: number.num, Pos: number.start}
}

// take tells the next token and goes on behind it.
func (r *reader) take() token {
	taken := r.next
	r.next = tokenAt(r.b, taken.end)
	return taken
}

// takeText takes the next token, which must be text.
func (r *reader) takeText(text string) {
	if r.next.text != text {
		r.refuse()
	}
	r.take()
}

// refuse panics with the error of a token that may not stand where it stands.
func (r *reader) refuse() {
	code := api.CodeSyntax
	if r.next.over { // told first, of the errors at one place
		code = api.CodeNumber
	}
	panic(refusal(code, r.next.start))
}

// refusal tells an error of this language.
func refusal(code, pos int) error {
	return fault.In(fault.At(fault.Of(code), pos), api.LangArith)
}

// strength tells how strongly an operator between two operands binds them, from 1 on; 0 of what is none.
func strength(text string) int {
	byStrength := [...][]string{
		{"||"},
		{"&&"},
		{"|"},
		{"^"},
		{"&"},
		{"==", "!="},
		{"<", "<=", ">", ">="},
		{"<<", ">>"},
		{"+", "-"},
		{"*", "/", "%"},
	}
	for i, alike := range byStrength {
		if slices.Contains(alike, text) {
			return i + 1
		}
	}
	return 0
}

// unary tells what the tree calls an operator of one operand; nothing of what is none.
func unary(text string) string {
	switch text {
	case "+", "-":
		return "u" + text
	case "!", "~":
		return text
	}
	return ""
}
