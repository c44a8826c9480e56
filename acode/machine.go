package acode

import (
	"pidgin/api"
	"pidgin/scan"
)

// machine is a run of code.
type machine struct {
	vars   *Vars
	set    map[string]int64    // what the run has set: apart from vars, which an error leaves as they were
	stack  [api.MaxArith]int64 // each number on it stands for a byte of the text, at least
	height int
	at     int
	steps  int
}

// newMachine tells a machine ahead of its first instruction.
func newMachine(v *Vars) *machine {
	return &machine{vars: v, set: map[string]int64{}}
}

// run goes through the instructions up to the end or the first error.
func (m *machine) run(list []instruction) error {
	for m.at < len(list) {
		in := list[m.at]
		m.at++
		m.steps++
		if err := m.step(in); err != nil {
			return err
		}
	}
	return nil
}

// keep sets in the variables what the run has set.
func (m *machine) keep() {
	for name, number := range m.set {
		m.vars.Set(name, scan.Text(number))
	}
}

// step does what one instruction says.
func (m *machine) step(in instruction) error {
	switch in.kind {
	case load:
		number, code := m.number(in.name)
		if code != api.CodeNone {
			return refusal(code, in.pos)
		}
		in.num = number
		fallthrough
	case push:
		m.push(in.num)
	case store:
		m.set[in.name] = m.stack[m.height-1]
	case single:
		m.push(result(in.op, 0, m.pop()))
	case double:
		right := m.pop()
		left := m.pop()
		if right == 0 && (in.op == "/" || in.op == "%") {
			return refusal(api.CodeDivide, in.pos)
		}
		m.push(result(in.op, left, right))
	case ifZero:
		if m.pop() != 0 {
			break
		}
		fallthrough
	case jump:
		m.at = in.to
	}
	return nil
}

// number tells the number of a variable as the run has left it so far, or the code of what is wrong with its value.
func (m *machine) number(name string) (number int64, code int) {
	if number, ok := m.set[name]; ok {
		return number, api.CodeNone
	}
	value, _ := m.vars.Get(name) // an unset one is 0, as the empty value is
	return numberOf(value)
}

func (m *machine) push(number int64) {
	m.stack[m.height] = number
	m.height++
}

func (m *machine) pop() int64 {
	m.height--
	return m.stack[m.height]
}

// result tells what an operator makes of two operands. One of one operand has that as its right one: there it is an operator of two with a left one that is always the same.
func result(op string, left, right int64) int64 {
	switch op {
	case "u+":
		left = 0
		fallthrough
	case "+":
		return left + right
	case "u-":
		left = 0
		fallthrough
	case "-":
		return left - right
	case "~":
		left = -1
		fallthrough
	case "^":
		return left ^ right
	case "&":
		return left & right
	case "|":
		return left | right
	case "*":
		return left * right
	case "/":
		return left / right
	case "%":
		return left % right
	case "<<":
		return left << (right & 63)
	case ">>":
		return left >> (right & 63)
	}
	return compared(op, left, right)
}

// compared tells 1 where a comparison of two operands holds, and else 0.
func compared(op string, left, right int64) int64 {
	holds := false
	switch op {
	case "truth":
		left = 0
		fallthrough
	case "!=":
		holds = left != right
	case "!":
		left = 0
		fallthrough
	case "==":
		holds = left == right
	case ">":
		left, right = right, left
		fallthrough
	case "<":
		holds = left < right
	case ">=":
		left, right = right, left
		fallthrough
	case "<=":
		holds = left <= right
	}
	if holds {
		return 1
	}
	return 0
}
