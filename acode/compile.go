package acode

import (
	"strings"

	"pidgin/api"
)

// Kinds of instructions.
const (
	push   = iota // puts num on the stack
	load          // puts the number of the variable name on the stack; the name stands at pos
	store         // sets the variable name to the number on top, which stays
	single        // puts what op makes of the number on top in its place
	double        // puts what op, which stands at pos, makes of the two on top in their place
	ifZero        // takes the number on top; goes on at to, if it is 0
	jump          // goes on at to
)

// instruction is a step of the machine. No one jumps back, so that a run goes through each at most once.
type instruction struct {
	kind int
	num  int64
	name string
	op   string
	pos  int
	to   int
}

// compiler puts instructions one behind the other.
type compiler struct {
	list []instruction
}

// compiled tells the instructions of an expression.
func compiled(tree api.Arith) []instruction {
	var c compiler
	c.part(tree)
	return c.list
}

// part puts what leaves the value of a part on the stack.
func (c *compiler) part(part api.Arith) {
	switch {
	case part.Op == "num":
		c.put(instruction{kind: push, num: part.Num})
	case part.Op == "name":
		c.put(instruction{kind: load, name: part.Name, pos: part.Pos})
	case part.Name != "":
		c.assignment(part)
	case part.Op == "?":
		c.branch(part.Kids[0], func() { c.part(part.Kids[1]) }, func() { c.part(part.Kids[2]) })
	case part.Op == "&&":
		c.branch(part.Kids[0], func() { c.truth(part.Kids[1]) }, func() { c.number(0) })
	case part.Op == "||":
		c.branch(part.Kids[0], func() { c.number(1) }, func() { c.truth(part.Kids[1]) })
	case len(part.Kids) == 1:
		c.part(part.Kids[0])
		c.put(instruction{kind: single, op: part.Op})
	default:
		c.part(part.Kids[0])
		c.part(part.Kids[1])
		c.put(instruction{kind: double, op: part.Op, pos: part.Pos})
	}
}

// assignment puts what sets a name, and leaves what it is set to.
func (c *compiler) assignment(part api.Arith) {
	op := strings.TrimSuffix(part.Op, "=")
	if op == "" {
		c.part(part.Kids[0])
	} else {
		c.put(instruction{kind: load, name: part.Name, pos: part.Pos})
		c.part(part.Kids[0])
		c.put(instruction{kind: double, op: op, pos: part.APos})
	}
	c.put(instruction{kind: store, name: part.Name})
}

// branch puts what goes through yes where asked is not 0, and else through no.
func (c *compiler) branch(asked api.Arith, yes, no func()) {
	c.part(asked)
	past := c.put(instruction{kind: ifZero})
	yes()
	end := c.put(instruction{kind: jump})
	c.list[past].to = len(c.list)
	no()
	c.list[end].to = len(c.list)
}

// truth puts what leaves 1 where part is not 0, and else 0.
func (c *compiler) truth(part api.Arith) {
	c.part(part)
	c.put(instruction{kind: single, op: "truth"})
}

// number puts what leaves n.
func (c *compiler) number(n int64) {
	c.put(instruction{kind: push, num: n})
}

// put puts an instruction behind the others and tells its place.
func (c *compiler) put(in instruction) int {
	c.list = append(c.list, in)
	return len(c.list) - 1
}
