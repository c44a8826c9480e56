package arith_test

import (
	"strings"
	"testing"

	"pidgin/api"
	"pidgin/arith"
	"pidgin/fault"
)

// parse tells the expression of a text that is one.
func parse(t *testing.T, text string) *arith.Expr {
	t.Helper()
	e, err := arith.Parse([]byte(text))
	if err != nil || e == nil {
		t.Fatalf("%.60q: %v, %s", text, e, fault.Text(fault.Tell(err)))
	}
	return e
}

// wantText: the text is an expression, and that is what Text writes.
func wantText(t *testing.T, text, want string) {
	t.Helper()
	if got := parse(t, text).Text(); got != want {
		t.Errorf("%.80q: %.80q, want %.80q", text, got, want)
	}
}

// wantFault: the text is refused by that code at that place.
func wantFault(t *testing.T, text string, code, pos int) {
	t.Helper()
	e, err := arith.Parse([]byte(text))
	want := api.Fault{Code: code, Pos: pos, Lang: api.LangArith}
	if e != nil || fault.Tell(err) != want {
		t.Errorf("%.60q: %s, %s, want %s", text, e.Text(), fault.Text(fault.Tell(err)), fault.Text(want))
	}
}

// TestP3_1Operators: each operator, in its place.
func TestP3_1Operators(t *testing.T) {
	for _, op := range strings.Fields("|| && | ^ & == != < <= > >= << >> + - * / %") {
		wantText(t, "a"+op+"1", "("+op+" a 1)")
		wantText(t, "(1)"+op+"(a)", "("+op+" 1 a)")
		if op != "+" && op != "-" { // which may begin an operand
			wantFault(t, op+"1", api.CodeSyntax, 0)
		}
		wantFault(t, "a"+op, api.CodeSyntax, 1+len(op))
	}
	for _, op := range strings.Fields("= <<= >>= += -= *= /= %= &= ^= |=") {
		wantText(t, "a"+op+"1", "("+op+" a 1)")
		wantText(t, "(a"+op+"b"+op+"1)", "("+op+" a ("+op+" b 1))")
		wantFault(t, "1"+op+"1", api.CodeSyntax, 1)
		wantFault(t, "(a)"+op+"1", api.CodeSyntax, 3)
		wantFault(t, "-a"+op+"1", api.CodeSyntax, 2)
		wantFault(t, "b+a"+op+"1", api.CodeSyntax, 3)
		wantFault(t, "a"+op, api.CodeSyntax, 1+len(op))
		wantFault(t, op+"1", api.CodeSyntax, 0)
	}
	for op, told := range map[string]string{"+": "u+", "-": "u-", "!": "!", "~": "~"} {
		wantText(t, op+"a", "("+told+" a)")
		wantText(t, op+op+"1", "("+told+" ("+told+" 1))")
		wantText(t, "2*"+op+"(1)", "(* 2 ("+told+" 1))")
		wantFault(t, op, api.CodeSyntax, 1)
	}
	wantText(t, "a?b:1", "(? a b 1)")
}

// TestP3_1Examples: what the document shows.
func TestP3_1Examples(t *testing.T) {
	wantText(t, "1+2*x", "(+ 1 (* 2 x))")
	wantFault(t, "a=b=-1 ? 2 : c+=3", api.CodeSyntax, 14)
	wantText(t, "a = b ? c = 1 : d", "(= a (? b (= c 1) d))")
	wantFault(t, "08", api.CodeSyntax, 1)
	wantFault(t, "1 +", api.CodeSyntax, 3)
	wantFault(t, "2 = 3", api.CodeSyntax, 2)
	wantFault(t, "(1", api.CodeSyntax, 2)
	wantFault(t, "0x1g", api.CodeSyntax, 3)
	wantText(t, "a<<=1", "(<<= a 1)")
	wantText(t, "a - -1", "(- a (u- 1))")
	wantText(t, "!~x", "(! (~ x))")
}

// TestP3_1Strength: of any two operators between operands, the stronger one binds; of one strength, the left one.
func TestP3_1Strength(t *testing.T) {
	weakestFirst := [][]string{{"||"}, {"&&"}, {"|"}, {"^"}, {"&"}, {"==", "!="}, {"<", "<=", ">", ">="}, {"<<", ">>"}, {"+", "-"}, {"*", "/", "%"}}
	for i, firsts := range weakestFirst {
		for j, seconds := range weakestFirst {
			for _, first := range firsts {
				for _, second := range seconds {
					left := "(" + second + " (" + first + " a b) c)"
					right := "(" + first + " a (" + second + " b c))"
					want := left
					if j > i {
						want = right
					}
					wantText(t, "a"+first+"b"+second+"c", want)
					wantText(t, "(a"+first+"b)"+second+"c", left)
					wantText(t, "a"+first+"(b"+second+"c)", right)
				}
			}
		}
	}
	wantText(t, "a||b&&c|d^e&f==g<h<<i+j*k", "(|| a (&& b (| c (^ d (& e (== f (< g (<< h (+ i (* j k))))))))))")
	wantText(t, "a*b+c<<d<e==f&g^h|i&&j||k", "(|| (&& (| (^ (& (== (< (<< (+ (* a b) c) d) e) f) g) h) i) j) k)")
	wantText(t, "a-b-c-d", "(- (- (- a b) c) d)")
}

// TestP3_1Unary: an operator of one operand binds more than any between two.
func TestP3_1Unary(t *testing.T) {
	for _, op := range strings.Fields("|| && | ^ & == != < <= > >= << >> + - * / %") {
		wantText(t, "-a "+op+" ~b", "("+op+" (u- a) (~ b))")
		wantText(t, "!(a "+op+" b)", "(! ("+op+" a b))")
	}
	wantText(t, "-a?+b:~c", "(? (u- a) (u+ b) (~ c))")
	wantText(t, "a+++b", "(+ a (u+ (u+ b)))")
	wantText(t, "a---b", "(- a (u- (u- b)))")
	wantText(t, "-+!~-1", "(u- (u+ (! (~ (u- 1)))))")
}

// TestP3_1Cond: conditions, and assignments in them.
func TestP3_1Cond(t *testing.T) {
	for text, want := range map[string]string{
		"a?b:c?d:e":       "(? a b (? c d e))",
		"a?b?c:d:e":       "(? a (? b c d) e)",
		"a||b?c||d:e||f":  "(? (|| a b) (|| c d) (|| e f))",
		"a?b=1:c?d=2:e":   "(? a (= b 1) (? c (= d 2) e))",
		"a?b:(c=1)":       "(? a b (= c 1))",
		"(a=1)?2:3":       "(? (= a 1) 2 3)",
		"a=1?2:3":         "(= a (? 1 2 3))",
		"a=b+=c?d-=1:2":   "(= a (+= b (? c (-= d 1) 2)))",
		"x<<=y>>=z&=1":    "(<<= x (>>= y (&= z 1)))",
		"(a?b:c)?d:e":     "(? (? a b c) d e)",
		"a+(b=c)*2":       "(+ a (* (= b c) 2))",
		"a==b?c:d":        "(? (== a b) c d)",
		"a?b?c=d?e:f:g:h": "(? a (? b (= c (? d e f)) g) h)",
	} {
		wantText(t, text, want)
	}
	for text, pos := range map[string]int{
		"a?b": 3, "a?": 2, "a?b:": 4, "a:b": 1, "a?:b": 2, "?a:b": 0, "a?b:c=1": 5, "a?b:c:d": 5, "a?(b:c)": 4, "(a?b):c": 4, "(a?b:c": 6, "a?b)": 3, "a+b?c=1": 7, "a?b:c+=1": 5, "1=a?b:c": 1, "a=b?c:d=e": 7, ":": 0, "a?b?c:d": 7,
	} {
		wantFault(t, text, api.CodeSyntax, pos)
	}
}

// TestP3_1Tokens: the longest token that fits.
func TestP3_1Tokens(t *testing.T) {
	for text, want := range map[string]string{
		"a<<b":  "(<< a b)",
		"a<-b":  "(< a (u- b))",
		"a<!b":  "(< a (! b))",
		"a&~b":  "(& a (~ b))",
		"a&&~b": "(&& a (~ b))",
		"a=-b":  "(= a (u- b))",
		"a-=-b": "(-= a (u- b))",
		"a==-b": "(== a (u- b))",
		"a--b":  "(- a (u- b))",
		"a++b":  "(+ a (u+ b))",
		"a>=+b": "(>= a (u+ b))",
		"a^=~b": "(^= a (~ b))",
		"!a!=b": "(!= (! a) b)",
		"_=__":  "(= _ __)",
		"a1B_2": "a1B_2",
		"0x1Fa": "506",
	} {
		wantText(t, text, want)
	}
	for text, pos := range map[string]int{
		"a<<<b": 3, "a===b": 3, "a&&&b": 3, "a|||b": 3, "a=!=b": 2, "a=+=b": 2, "a<<==b": 4, "a<==b": 3, "a>>>b": 3, "a!b": 1, "a~b": 1, "a~=b": 1, "a! =b": 1, "a= =b": 3, "a+ =b": 3, "a< =b": 3, "a| |b": 3, "a & & b": 4, "a**b": 2, "a//b": 2, "a&&=b": 3, "a||=b": 3, "a!==b": 3, "a=b=": 4, "a<<=": 4, "a<>b": 2, "a><b": 2,
	} {
		wantFault(t, text, api.CodeSyntax, pos)
	}
}

// TestP3_1Constants: constants of all bases, up to the greatest int64.
func TestP3_1Constants(t *testing.T) {
	for text, want := range map[string]string{
		"0": "0", "00": "0", "7": "7", "010": "8", "0777": "511", "10": "10", "0x1F": "31", "0Xab": "171", "0x00ff": "255", "1234567890": "1234567890",
		"9223372036854775807": "9223372036854775807", "0x7fffffffffffffff": "9223372036854775807", "0777777777777777777777": "9223372036854775807", "-9223372036854775807": "(u- 9223372036854775807)",
		"0000000000000000000000000000001": "1", "0x0000000000000000000000000000001": "1",
	} {
		wantText(t, text, want)
		wantText(t, "("+text+")", want)
		wantText(t, "a\t=\n"+text+" ", "(= a "+want+")")
	}
	for _, text := range []string{"9223372036854775808", "0x8000000000000000", "01000000000000000000000", "18446744073709551616", "99999999999999999999", "0xffffffffffffffff", strings.Repeat("9", 1000), "0x1" + strings.Repeat("0", 900)} {
		wantFault(t, text, api.CodeNumber, 0)
		wantFault(t, "-"+text, api.CodeNumber, 1)
		wantFault(t, " ( "+text+")", api.CodeNumber, 3)
		wantFault(t, "a ? b : "+text, api.CodeNumber, 8)
		wantFault(t, "a += "+text, api.CodeNumber, 5)
	}
}

// TestP3_1Places: of several faults the one at the least place, and of one place the first that the chapter lists.
func TestP3_1Places(t *testing.T) {
	const great = "9223372036854775808"
	for _, c := range []struct {
		text string
		code int
		pos  int
	}{
		{great + "x", api.CodeNumber, 0}, {great + " x", api.CodeNumber, 0}, {great + "=", api.CodeNumber, 0}, // ahead of what is behind the constant
		{"1 " + great, api.CodeNumber, 2}, {"a " + great, api.CodeNumber, 2}, {"(1)" + great, api.CodeNumber, 3}, {"(a " + great, api.CodeNumber, 3}, {"a ? b " + great, api.CodeNumber, 6}, {"1 " + great + "x", api.CodeNumber, 2}, // a great constant that may not stand there either
		{") " + great, api.CodeSyntax, 0}, {"1 = " + great, api.CodeSyntax, 2}, {"+ * " + great, api.CodeSyntax, 2}, {"1x " + great, api.CodeSyntax, 1}, {"$" + great, api.CodeSyntax, 0},
		{"08", api.CodeSyntax, 1}, {"08 " + great, api.CodeSyntax, 1}, {"0x", api.CodeSyntax, 1}, {"0xg", api.CodeSyntax, 1}, {"0x1g", api.CodeSyntax, 3}, {"1_", api.CodeSyntax, 1}, {"1a=2", api.CodeSyntax, 1}, {"12z", api.CodeSyntax, 2}, {"0" + strings.Repeat("9", 20), api.CodeSyntax, 1}, {"a + 078" + great, api.CodeSyntax, 6}, {"079", api.CodeSyntax, 2}, {"0xfG", api.CodeSyntax, 3}, {"-1a", api.CodeSyntax, 2}, {"1+2A", api.CodeSyntax, 3}, {"00x1", api.CodeSyntax, 2},
		{"1 08", api.CodeSyntax, 2}, {"a 1x", api.CodeSyntax, 2}, {"1 1", api.CodeSyntax, 2}, {"a b", api.CodeSyntax, 2}, {"a 1", api.CodeSyntax, 2}, {"1 a", api.CodeSyntax, 2}, {"a(b)", api.CodeSyntax, 1}, {"1(2)", api.CodeSyntax, 1}, {"(1)2", api.CodeSyntax, 3}, {"(a)b", api.CodeSyntax, 3},
		{"", api.CodeSyntax, 0}, {" ", api.CodeSyntax, 1}, {" \t\n ", api.CodeSyntax, 4}, {"1 + ", api.CodeSyntax, 4}, {"-", api.CodeSyntax, 1}, {"a = ", api.CodeSyntax, 4}, {"(", api.CodeSyntax, 1}, {"((1)", api.CodeSyntax, 4}, {"(1 \n", api.CodeSyntax, 4},
		{"()", api.CodeSyntax, 1}, {"( )", api.CodeSyntax, 2}, {"1)", api.CodeSyntax, 1}, {"(1))", api.CodeSyntax, 3}, {")", api.CodeSyntax, 0}, {"(1+)", api.CodeSyntax, 3},
		{"1 # 2", api.CodeSyntax, 2}, {"$a", api.CodeSyntax, 0}, {"a,b", api.CodeSyntax, 1}, {"a;", api.CodeSyntax, 1}, {"a[1]", api.CodeSyntax, 1}, {"1.5", api.CodeSyntax, 1}, {"'1'", api.CodeSyntax, 0}, {"1\r", api.CodeSyntax, 1}, {"\v1", api.CodeSyntax, 0}, {"1\f", api.CodeSyntax, 1}, {"1\x00", api.CodeSyntax, 1}, {"\x001", api.CodeSyntax, 0}, {"{1}", api.CodeSyntax, 0}, {"a\\", api.CodeSyntax, 1}, {"@", api.CodeSyntax, 0},
	} {
		wantFault(t, c.text, c.code, c.pos)
	}
}

// TestP3_1Bytes: each byte behind an expression, ahead of one, and behind a constant.
func TestP3_1Bytes(t *testing.T) {
	for i := range 256 {
		c := string([]byte{byte(i)})
		switch {
		case strings.Contains(" \t\n", c):
			wantText(t, "a "+c, "a")
			wantText(t, c+" a", "a")
			wantText(t, "1"+c, "1")
		case strings.Contains("+-!~", c):
			wantFault(t, c, api.CodeSyntax, 1)
		case c == "(":
			wantFault(t, c+" a", api.CodeSyntax, 3)
			wantFault(t, "a "+c, api.CodeSyntax, 2)
		case '0' <= i && i <= '9':
			wantText(t, c, c)
			wantFault(t, "a "+c, api.CodeSyntax, 2)
		case c == "_" || 'a' <= i && i <= 'z' || 'A' <= i && i <= 'Z':
			wantText(t, c, c)
			wantFault(t, "1"+c, api.CodeSyntax, 1)
			wantFault(t, "a "+c, api.CodeSyntax, 2)
		case strings.Contains("*/%<>&^|?=", c): // of these the second operand, or side, is missing
			wantFault(t, c+"a", api.CodeSyntax, 0)
			wantFault(t, "a "+c, api.CodeSyntax, 3)
		default:
			wantFault(t, c+"a", api.CodeSyntax, 0)
			wantFault(t, "a "+c, api.CodeSyntax, 2)
			wantFault(t, "1"+c, api.CodeSyntax, 1)
			wantFault(t, "a = -"+c, api.CodeSyntax, 5)
		}
	}
	wantFault(t, "a\xc3\xa9", api.CodeSyntax, 1)
	wantFault(t, "\xc2\xa0a", api.CodeSyntax, 0) // a space that is no white
	wantFault(t, "１", api.CodeSyntax, 0)
}

// fit tells text with spaces behind it, of just that length.
func fit(t *testing.T, text string, length int) string {
	t.Helper()
	if len(text) > length {
		t.Fatalf("%d bytes are more than %d", len(text), length)
	}
	return text + strings.Repeat(" ", length-len(text))
}

// TestP3_1Longest: texts of just MaxArith bytes are read, texts of one more are not, whatever they hold.
func TestP3_1Longest(t *testing.T) {
	const most = api.MaxArith
	const half = most/2 - 1
	for _, c := range []struct{ text, want string }{
		{strings.Repeat("-", most-1) + "1", strings.Repeat("(u- ", most-1) + "1" + strings.Repeat(")", most-1)},
		{strings.Repeat("!", most-1) + "a", strings.Repeat("(! ", most-1) + "a" + strings.Repeat(")", most-1)},
		{strings.Repeat("(", half) + "a" + strings.Repeat(")", half), "a"},
		{"1" + strings.Repeat("+1", half), strings.Repeat("(+ ", half) + "1" + strings.Repeat(" 1)", half)},
		{strings.Repeat("a=", half) + "1", strings.Repeat("(= a ", half) + "1" + strings.Repeat(")", half)},
		{strings.Repeat("a?b:", half/2) + "c", strings.Repeat("(? a b ", half/2) + "c" + strings.Repeat(")", half/2)},
		{strings.Repeat("a?", half/2) + "b" + strings.Repeat(":c", half/2), strings.Repeat("(? a ", half/2) + "b" + strings.Repeat(" c)", half/2)},
		{strings.Repeat("n", most), strings.Repeat("n", most)},
		{strings.Repeat("0", most-1) + "7", "7"},
		{strings.Repeat(" ", most-1) + "7", "7"},
	} {
		text := fit(t, c.text, most)
		wantText(t, text, c.want)
		wantFault(t, text+" ", api.CodeLong, 0)
		wantFault(t, " "+text, api.CodeLong, 0)
	}
	for _, text := range []string{strings.Repeat("(", most), strings.Repeat("-", most), strings.Repeat(" ", most), strings.Repeat("1+", most/2)} {
		wantFault(t, text, api.CodeSyntax, most)
		wantFault(t, text+"1", api.CodeLong, 0)
	}
	for _, text := range []string{strings.Repeat("$", most+1), strings.Repeat("9", most+1), strings.Repeat(" ", most+1), strings.Repeat("a", 1<<20)} {
		wantFault(t, text, api.CodeLong, 0)
	}
	wantFault(t, strings.Repeat("9", most), api.CodeNumber, 0)
	wantFault(t, strings.Repeat(")", most), api.CodeSyntax, 0)
}
