package acode_test

import (
	"maps"
	"math/big"
	"regexp"
	"slices"
	"strings"
	"testing"

	"pidgin/acode"
	"pidgin/api"
	"pidgin/arith"
	"pidgin/fault"
)

// The tests of this file hold runs of many expressions against a walk over the tree with numbers that have no ends, which are cut to 64 bits behind each operator.

// model is the variables of such a walk, as text.
type model map[string]string

var (
	constantForm = regexp.MustCompile(`^[ \t\n]*([+-]?)(0[xX][0-9a-fA-F]+|0[0-7]*|[1-9][0-9]*)[ \t\n]*$`)
	limit        = new(big.Int).Lsh(big.NewInt(1), 63)
)

// wrapped tells n cut to 64 bits.
func wrapped(n *big.Int) *big.Int {
	n = new(big.Int).Add(n, limit)
	n.Mod(n, new(big.Int).Lsh(limit, 1))
	return n.Sub(n, limit)
}

// number tells the number of a variable; it panics with the fault of a value that is none.
func (m model) number(name string, pos int) *big.Int {
	value := m[name]
	if value == "" {
		return new(big.Int)
	}
	form := constantForm.FindStringSubmatch(value)
	if form == nil {
		panic(api.Fault{Code: api.CodeValue, Pos: pos, Lang: api.LangArith})
	}
	n, _ := new(big.Int).SetString(form[2], 0)
	if n.Cmp(limit) >= 0 && form[1]+form[2] != "-9223372036854775808" {
		panic(api.Fault{Code: api.CodeNumber, Pos: pos, Lang: api.LangArith})
	}
	if form[1] == "-" {
		n.Neg(n)
	}
	return n
}

// bit tells 1 or 0.
func bit(holds bool) *big.Int {
	if holds {
		return big.NewInt(1)
	}
	return new(big.Int)
}

// value tells the value of a part; it panics with the first fault.
func (m model) value(a api.Arith) *big.Int {
	switch a.Op {
	case "num":
		return big.NewInt(a.Num)
	case "name":
		return m.number(a.Name, a.Pos)
	case "?":
		if m.value(a.Kids[0]).Sign() != 0 {
			return m.value(a.Kids[1])
		}
		return m.value(a.Kids[2])
	case "&&":
		return bit(m.value(a.Kids[0]).Sign() != 0 && m.value(a.Kids[1]).Sign() != 0)
	case "||":
		return bit(m.value(a.Kids[0]).Sign() != 0 || m.value(a.Kids[1]).Sign() != 0)
	}
	if a.Name != "" {
		set := new(big.Int)
		if a.Op == "=" {
			set = m.value(a.Kids[0])
		} else {
			before := m.number(a.Name, a.Pos)
			set = two(strings.TrimSuffix(a.Op, "="), before, m.value(a.Kids[0]), a.APos)
		}
		m[a.Name] = set.String()
		return set
	}
	first := m.value(a.Kids[0])
	if len(a.Kids) == 1 {
		return one(a.Op, first)
	}
	return two(a.Op, first, m.value(a.Kids[1]), a.Pos)
}

// one tells what an operator makes of one operand.
func one(op string, n *big.Int) *big.Int {
	switch op {
	case "u-":
		return wrapped(new(big.Int).Neg(n))
	case "~":
		return new(big.Int).Not(n)
	case "!":
		return bit(n.Sign() == 0)
	}
	return n
}

// two tells what an operator makes of two operands.
func two(op string, n, by *big.Int, pos int) *big.Int {
	count := uint(new(big.Int).Mod(by, big.NewInt(64)).Uint64())
	out := new(big.Int)
	switch op {
	case "+":
		out.Add(n, by)
	case "-":
		out.Sub(n, by)
	case "*":
		out.Mul(n, by)
	case "/", "%":
		if by.Sign() == 0 {
			panic(api.Fault{Code: api.CodeDivide, Pos: pos, Lang: api.LangArith})
		}
		rest := new(big.Int)
		if out.QuoRem(n, by, rest); op == "%" {
			out = rest
		}
	case "<<":
		out.Lsh(n, count)
	case ">>":
		out.Rsh(n, count)
	case "&":
		out.And(n, by)
	case "|":
		out.Or(n, by)
	case "^":
		out.Xor(n, by)
	case "==":
		out = bit(n.Cmp(by) == 0)
	case "!=":
		out = bit(n.Cmp(by) != 0)
	case "<":
		out = bit(n.Cmp(by) < 0)
	case "<=":
		out = bit(n.Cmp(by) <= 0)
	case ">":
		out = bit(n.Cmp(by) > 0)
	case ">=":
		out = bit(n.Cmp(by) >= 0)
	}
	return wrapped(out)
}

// run tells what the walk over a tree tells, and leaves the variables as they are, if that is a fault.
func (m model) run(tree api.Arith) (number int64, met api.Fault) {
	before := maps.Clone(m)
	defer func() {
		if f, ok := recover().(api.Fault); ok {
			clear(m)
			maps.Copy(m, before)
			number, met = 0, f
		}
	}()
	return m.value(tree).Int64(), api.Fault{}
}

// text tells the variables.
func (m model) text() string {
	var all []string
	for _, name := range slices.Sorted(maps.Keys(m)) {
		all = append(all, name+"="+m[name])
	}
	return strings.Join(all, ";")
}

// dice tells numbers that are the same each time.
type dice uint64

func (d *dice) below(n int) int {
	*d ^= *d << 13
	*d ^= *d >> 7
	*d ^= *d << 17
	return int(uint64(*d) % uint64(n))
}

func (d *dice) word(words []string) string { return words[d.below(len(words))] }

// expression tells an expression of at most that many parts in one another.
func (d *dice) expression(deep int) string {
	constants := strings.Fields("0 1 2 3 7 010 0x1f 63 64 65 255 9223372036854775806 9223372036854775807 0x7fffffffffffffff 4294967296")
	names := strings.Fields("a b c x y none")
	binary := strings.Fields("|| && | ^ & == != < <= > >= << >> + - * / % + - * << >> || &&")
	if deep == 0 {
		return d.word([]string{d.word(constants), d.word(names), "-" + d.word(constants)})
	}
	inner := func() string {
		space := strings.Repeat(" ", d.below(2))
		return "(" + space + d.expression(deep-1) + space + ")"
	}
	switch d.below(9) {
	case 0:
		return d.word(names) + " " + d.word(strings.Fields("= <<= >>= += -= *= /= %= &= ^= |= = =")) + d.expression(deep-1)
	case 1:
		return d.word(strings.Fields("+ - ! ~")) + inner()
	case 2:
		return inner() + "?" + d.expression(deep-1) + " : " + inner()
	case 3:
		return d.expression(0)
	}
	return inner() + d.word(binary) + inner()
}

// TestP4_3All: many expressions, of many variables, tell what the walk tells.
func TestP4_3All(t *testing.T) {
	values := []string{"", "0", "1", "-1", "5", " 0x10 ", "010", "-7\n", "64", "-64", "9223372036854775807", "-9223372036854775808", "-9223372036854775807", "+3", "2", "12", "100", "1a", " ", "99999999999999999999", "0x8000000000000000"}
	next := dice(88172645463325252)
	codes := map[int]int{}
	for range 30000 {
		text := next.expression(1 + next.below(5))
		if len(text) > api.MaxArith {
			continue
		}
		m, v := model{}, acode.New()
		for _, name := range strings.Fields("a b c x y z") {
			if next.below(4) > 0 {
				m[name] = next.word(values[:len(values)-4*next.below(2)])
				v.Set(name, m[name])
			}
		}
		codes[held(t, text, m, v)]++
	}
	for code, least := range map[int]int{api.CodeNone: 10000, api.CodeValue: 1000, api.CodeNumber: 1000, api.CodeDivide: 1000} {
		if codes[code] < least {
			t.Errorf("code %d: only %d times", code, codes[code])
		}
	}
}

// held holds a run against the walk, and tells its code.
func held(t *testing.T, text string, m model, v *acode.Vars) int {
	t.Helper()
	given := m.text()
	e, err := arith.Parse([]byte(text))
	if err != nil {
		t.Fatalf("%q: %s", text, fault.Text(fault.Tell(err)))
	}
	code := acode.Compile(e)
	if n := code.Len(); n < 1 || n > 8*e.Size()+8 {
		t.Fatalf("%q: %d instructions of size %d", text, n, e.Size())
	}
	if n := code.Steps(v); n < 1 || n > code.Len() || textOf(v) != given {
		t.Fatalf("%q of %q: %d steps of %d, then %q", text, given, n, code.Len(), textOf(v))
	}
	want, met := m.run(e.Tree())
	got, err := code.Run(v)
	if got != want || fault.Tell(err) != met || textOf(v) != m.text() {
		t.Fatalf("%q of %q: %d, %s, then %q, want %d, %s, then %q", text, given, got, fault.Text(fault.Tell(err)), textOf(v), want, fault.Text(met), m.text())
	}
	return met.Code
}

// TestP4_3Ends: each operator, and each assigning one, of each two numbers at the ends and around the counts of shifts.
func TestP4_3Ends(t *testing.T) {
	numbers := strings.Fields("0 1 -1 2 -2 3 -3 10 -10 31 32 33 62 63 64 65 -31 -32 -62 -63 -64 -65 127 128 255 -255 4294967295 4294967296 -4294967296 3037000499 3037000500 -3037000500 4611686018427387903 4611686018427387904 -4611686018427387904 -4611686018427387905 9223372036854775806 9223372036854775807 -9223372036854775807 -9223372036854775808")
	var texts []string
	for _, op := range strings.Fields("|| && | ^ & == != < <= > >= << >> + - * / %") {
		texts = append(texts, "x "+op+" y")
	}
	for _, op := range strings.Fields("= <<= >>= += -= *= /= %= &= ^= |=") {
		texts = append(texts, "x "+op+" y")
	}
	texts = append(texts, "-x", "+x", "!x", "~x", "x ? y : 5", "-x - y", "- (x * y) / 3")
	for _, x := range numbers {
		for _, y := range numbers {
			for _, text := range texts {
				held(t, text, model{"x": x, "y": y}, varsOf("x="+x+";y="+y))
			}
		}
	}
}
