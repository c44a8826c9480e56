package acode_test

import (
	"math"
	"strings"
	"sync"
	"testing"

	"pidgin/acode"
	"pidgin/api"
	"pidgin/arith"
	"pidgin/fault"
	"pidgin/scan"
)

const (
	least    = math.MinInt64
	greatest = math.MaxInt64
	ends     = "l=-9223372036854775808;g=9223372036854775807;z=0;m=-1;o=1"
)

// TestP4_2Len: how many instructions, within the bound; the longest texts are compiled.
func TestP4_2Len(t *testing.T) {
	const half = api.MaxArith/2 - 1
	for _, text := range []string{
		"1", "a", "-a", "a+b", "a=1", "a+=1", "a&&b", "a||b", "a?b:c", "!(a=b?c=1:d)", "a<<=b>>=c", "1&&2&&3||4||5?6&&7:8||9",
		strings.Repeat("-", api.MaxArith-1) + "1", strings.Repeat("1+", half) + "1", strings.Repeat("a=", half) + "1", strings.Repeat("(", half) + "a" + strings.Repeat(")", half),
		strings.Repeat("1&&", 340) + "1", strings.Repeat("0||", 340) + "1", strings.Repeat("a?b:", 255) + "c", strings.Repeat("a?", half/2) + "b" + strings.Repeat(":c", half/2), strings.Repeat("a+=", 340) + "1", strings.Repeat("1-(", 255) + "1" + strings.Repeat(")", 255),
	} {
		e, err := arith.Parse([]byte(text))
		if err != nil {
			t.Fatal(text, err)
		}
		code := acode.Compile(e)
		if n := code.Len(); n < 1 || n > 8*e.Size()+8 {
			t.Errorf("%.60q: %d instructions of size %d", text, n, e.Size())
		}
		if again := acode.Compile(e).Len(); again != code.Len() {
			t.Errorf("%.60q: %d instructions, then %d", text, code.Len(), again)
		}
		if _, err := code.Run(acode.New()); err != nil {
			t.Errorf("%.60q: %v", text, err)
		}
		steps(t, text, acode.New())
	}
}

// TestP4_3Longest: what the longest and deepest texts tell.
func TestP4_3Longest(t *testing.T) {
	const half = api.MaxArith/2 - 1
	wantValue(t, strings.Repeat("-", api.MaxArith-2)+"1", "", 1)
	wantValue(t, strings.Repeat("-", api.MaxArith-1)+"1", "", -1)
	wantValue(t, strings.Repeat("1+", half)+"1", "", half+1)
	wantRun(t, strings.Repeat("a=", half)+"7", "", 7, "a=7")
	wantValue(t, strings.Repeat("1-(", 255)+"0"+strings.Repeat(")", 255), "", 1)
	wantRun(t, strings.Repeat("a+=", 340)+"1", "a=1", 341, "a=341")
	wantValue(t, strings.Repeat("1?", half/2)+"5"+strings.Repeat(":6", half/2), "", 5)
	wantValue(t, strings.Repeat("0?1:", 255)+"5", "", 5)
	wantValue(t, strings.Repeat("1&&", 340)+"5", "", 1)
	wantValue(t, strings.Repeat("0||", 340)+"0", "", 0)
	wantValue(t, strings.Repeat("(", half)+"a"+strings.Repeat(")", half), "a=3", 3)
}

// TestP4_3Operators: each operator, at ordinary numbers and at the ends of int64.
func TestP4_3Operators(t *testing.T) {
	for text, want := range map[string]int64{
		"1": 1, "0x1f": 31, "010": 8, "9223372036854775807": greatest, "a": 0, "(2)": 2,
		"2 + 3": 5, "2 - 3": -1, "2 * -3": -6, "g + 1": least, "l - 1": greatest, "l + l": 0, "g + g": -2, "g * 2": -2, "l * 2": 0, "l * -1": least, "g * g": 1, "l * l": 0, "0x100000000 * 0x100000000": 0, "0xffffffff * 0xffffffff": -8589934591,
		"+7": 7, "+l": least, "-7": -7, "-l": least, "-g": least + 1, "- -g": greatest, "!0": 1, "!1": 0, "!m": 0, "!l": 0, "!!5": 1, "~0": -1, "~g": least, "~l": greatest, "~5": -6,
		"7 / 2": 3, "-7 / 2": -3, "7 / -2": -3, "-7 / -2": 3, "7 % 2": 1, "-7 % 2": -1, "7 % -2": 1, "-7 % -2": -1, "0 / 5": 0, "0 % 5": 0, "1 / 2": 0, "-1 / 2": 0,
		"l / -1": least, "l % -1": 0, "l / 1": least, "l % 1": 0, "g / -1": least + 1, "l / l": 1, "l / g": -1, "l % g": -1, "g / l": 0, "g % l": greatest, "l / 2": least / 2,
		"1 << 0": 1, "1 << 62": 1 << 62, "1 << 63": least, "1 << 64": 1, "1 << 65": 2, "3 << 63": least, "1 << -1": least, "1 << -64": 1, "1 << -63": 2, "1 << l": 1, "1 << g": least, "5 << 128": 5, "g << 1": -2, "m << 4": -16, "1 << 4294967297": 2,
		"1 >> 0": 1, "l >> 63": -1, "l >> 62": -2, "l >> 64": least, "l >> -1": -1, "g >> 62": 1, "g >> 63": 0, "g >> -1": 0, "g >> 64": greatest, "m >> 1": -1, "-5 >> 1": -3, "5 >> 1": 2, "8 >> 65": 4, "8 >> l": 8, "8 >> g": 0, "8 >> -62": 2, "8 >> 4294967297": 4,
		"6 & 3": 2, "6 | 3": 7, "6 ^ 3": 5, "l & m": least, "l | g": -1, "l ^ m": greatest, "-6 & 3": 2, "-6 | 3": -5, "-6 ^ 3": -7,
		"1 < 2": 1, "2 < 1": 0, "1 < 1": 0, "1 <= 2": 1, "2 <= 1": 0, "1 <= 1": 1, "1 > 2": 0, "2 > 1": 1, "1 > 1": 0, "1 >= 2": 0, "2 >= 1": 1, "1 >= 1": 1, "l < g": 1, "g < l": 0, "l > g": 0, "g > l": 1, "l <= l": 1, "g >= g": 1, "m < 0": 1, "m > 0": 0, "l >= g": 0, "g <= l": 0,
		"1 == 1": 1, "1 == 2": 0, "1 != 1": 0, "1 != 2": 1, "l == g": 0, "l != g": 1, "l == l": 1, "l != l": 0, "2 == 1 + 1": 1,
		"1 && 1": 1, "1 && 0": 0, "0 && 1": 0, "0 && 0": 0, "5 && -7": 1, "l && g": 1, "1 || 1": 1, "1 || 0": 1, "0 || 1": 1, "0 || 0": 0, "5 || 0": 1, "0 || l": 1, "-7 || -7": 1,
		"1 ? 2 : 3": 2, "0 ? 2 : 3": 3, "-1 ? 2 : 3": 2, "l ? g : 0": greatest, "0 ? 1 : 0 ? 2 : 5": 5, "1 ? 0 ? 1 : 7 : 9": 7,
		"1 + 2 * 3": 7, "(1 + 2) * 3": 9, "10 - 2 - 3": 5, "100 / 10 / 5": 2, "100 % 30 % 7": 3, "1 << 2 << 3": 32, "1 < 2 < 3": 1, "3 > 2 > 1": 0, "2 == 2 == 2": 0, "-2 * -3 % 4": 2,
	} {
		wantValue(t, text, ends, want)
	}
}

// TestP4_3Assignments: each assigning operator sets the name to the Text of what it tells.
func TestP4_3Assignments(t *testing.T) {
	wantRun(t, "x = 5", "", 5, "x=5")
	wantRun(t, "x = -5", "x=9", -5, "x=-5")
	wantRun(t, "x = 0x1F", "y=1", 31, "x=31;y=1")
	wantRun(t, "x = y", "y= 0x10\n", 16, "x=16;y= 0x10\n")
	for _, c := range []struct {
		op    string
		value string
		by    string
		want  string
	}{
		{"+=", "7", "3", "10"}, {"+=", "9223372036854775807", "1", "-9223372036854775808"}, {"+=", "", "3", "3"},
		{"-=", "7", "3", "4"}, {"-=", "-9223372036854775808", "1", "9223372036854775807"}, {"-=", "0", "5", "-5"},
		{"*=", "7", "-3", "-21"}, {"*=", "9223372036854775807", "2", "-2"}, {"*=", "-9223372036854775808", "-1", "-9223372036854775808"},
		{"/=", "-7", "2", "-3"}, {"/=", "-9223372036854775808", "-1", "-9223372036854775808"}, {"/=", "0x10", "3", "5"},
		{"%=", "-7", "2", "-1"}, {"%=", "-9223372036854775808", "-1", "0"}, {"%=", "7", "-4", "3"},
		{"<<=", "1", "63", "-9223372036854775808"}, {"<<=", "1", "-1", "-9223372036854775808"}, {"<<=", "3", "64", "3"},
		{">>=", "-9", "1", "-5"}, {">>=", "-9223372036854775808", "-1", "-1"}, {">>=", "9", "65", "4"},
		{"&=", "6", "3", "2"}, {"|=", "6", "3", "7"}, {"^=", "6", "3", "5"}, {"&=", "-1", "-9223372036854775807-1", "-9223372036854775808"}, {"|=", " 010 ", "1", "9"}, {"^=", "-1", "0", "-1"},
	} {
		want, _ := scan.Whole(c.want)
		wantRun(t, "x "+c.op+" "+c.by, "x="+c.value, want, "x="+c.want)
		wantRun(t, "(x "+c.op+" "+c.by+") + (x == "+c.by+" - "+c.by+") * 0", "x="+c.value, want, "x="+c.want)
		wantValue(t, "x "+strings.TrimSuffix(c.op, "=")+" ("+c.by+")", "x="+c.value, want)
	}
	for _, op := range strings.Fields("+= -= *= <<= >>= &= |= ^=") {
		wantRun(t, "x"+op+"0", "", 0, "x=0") // an unset name is 0
	}
	wantRun(t, "a = b = c = 3", "b=bad", 3, "a=3;b=3;c=3")
	wantRun(t, "a += b -= 2", "a=10;b=5", 13, "a=13;b=3")
	wantRun(t, "a = 1 ? b = 2 : 3", "", 2, "a=2;b=2")
	wantRun(t, "_ = a1 = Z9_ = 1", "", 1, "Z9_=1;_=1;a1=1")
}

// TestP4_3Order: operands from the left to the right; x of x op= e ahead of e.
func TestP4_3Order(t *testing.T) {
	wantRun(t, "a + (a = 5)", "a=1", 6, "a=5")
	wantRun(t, "(a = 5) + a", "a=1", 10, "a=5")
	wantRun(t, "a - (a = 5) - a", "a=1", -9, "a=5")
	wantRun(t, "a * 100 + (a = 2) * 10 + a", "a=1", 122, "a=2")
	wantRun(t, "a += (a = 5)", "a=1", 6, "a=6")
	wantRun(t, "a = a + (a = 5)", "a=1", 6, "a=6")
	wantRun(t, "a -= a *= 3", "a=2", -4, "a=-4")
	wantRun(t, "a <<= (a += 1)", "a=1", 4, "a=4")
	wantRun(t, "(a = 3) ? a : 9", "a=0", 3, "a=3")
	wantRun(t, "(a = 1) && (b = a + 1) && (c = b + 1)", "", 1, "a=1;b=2;c=3")
	wantRun(t, "(a = 0) || (a = 4) && a == 4", "", 1, "a=4")
	wantRun(t, "(x = 7) * (x = x - 2) + x", "", 40, "x=5")
	wantRun(t, "(a = 1) / a + (a = 2) % a", "", 1, "a=2")
	wantRun(t, "a > (a = 1)", "a=5", 1, "a=1")
	wantRun(t, "a >= (a = 9)", "a=5", 0, "a=9")
	wantRun(t, "(a = 1) < (a = 2) ? a : 0", "", 2, "a=2")
}

// TestP4_3Unneeded: what && || and the condition pass by neither sets nor errs.
func TestP4_3Unneeded(t *testing.T) {
	for _, passed := range []string{"(x = 1)", "(x += 1)", "1 / 0", "(x = 1 % 0)", "bad", "great", "(bad += 1)", "(x /= 0)", "-bad", "(bad || great)", "(bad ? 1 : 2)"} {
		const given = "bad=1a;great=99999999999999999999;x=4"
		wantValue(t, "0 && "+passed, given, 0)
		wantValue(t, "1 || "+passed, given, 1)
		wantValue(t, "-3 || "+passed, given, 1)
		wantValue(t, "1 ? 7 : "+passed, given, 7)
		wantValue(t, "0 ? "+passed+" : 7", given, 7)
		wantValue(t, "0 && "+passed+" && "+passed, given, 0)
		wantValue(t, "0 && "+passed+" || 6", given, 1)
		wantValue(t, "1 || "+passed+" || "+passed, given, 1)
		wantValue(t, "1 || "+passed+" && "+passed, given, 1)
		wantValue(t, "0 ? "+passed+" ? 1 : 2 : 1 ? 5 : "+passed, given, 5)
		wantRun(t, "x = 0 && "+passed, given, 0, "bad=1a;great=99999999999999999999;x=0")
		wantRun(t, "(y = 2) || "+passed, given, 1, "bad=1a;great=99999999999999999999;x=4;y=2")
	}
	wantRun(t, "1 && (x = 1)", "", 1, "x=1")
	wantRun(t, "1 && (x = 0)", "", 0, "x=0")
	wantRun(t, "0 || (x = 5)", "", 1, "x=5")
	wantRun(t, "0 || (x = 0)", "", 0, "x=0")
	wantRun(t, "1 ? (x = 5) : (y = 6)", "", 5, "x=5")
	wantRun(t, "0 ? (x = 5) : (y = 6)", "", 6, "y=6")
	wantFault(t, "1 && bad", "bad=b", api.CodeValue, 5)
	wantFault(t, "0 || bad", "bad=b", api.CodeValue, 5)
	wantFault(t, "bad && 0", "bad=b", api.CodeValue, 0)
	wantFault(t, "bad || 1", "bad=b", api.CodeValue, 0)
	wantFault(t, "bad ? 1 : 2", "bad=b", api.CodeValue, 0)
	wantFault(t, "0 ? 1 : bad", "bad=b", api.CodeValue, 8)
	wantFault(t, "1 ? bad : 1", "bad=b", api.CodeValue, 4)
}

// TestP4_3Divide: by 0, at the operator, whatever is divided.
func TestP4_3Divide(t *testing.T) {
	for _, zero := range []string{"0", "z", "none", "(1 - 1)", "!5", "(z = 0)"} {
		for _, value := range []string{"0", "1", "-1", "9223372036854775807", "-9223372036854775808"} {
			wantFault(t, "x / "+zero, "z=0;x="+value, api.CodeDivide, 2)
			wantFault(t, "x % "+zero, "z=0;x="+value, api.CodeDivide, 2)
			wantFault(t, "x /= "+zero, "z=0;x="+value, api.CodeDivide, 2)
			wantFault(t, "x %= "+zero, "z=0;x="+value, api.CodeDivide, 2)
			wantFault(t, " 1 +  (x\t/"+zero+")", "z=0;x="+value, api.CodeDivide, 9)
			wantFault(t, "y = xyz  %="+zero, "z=0;x="+value, api.CodeDivide, 9)
		}
	}
	wantFault(t, "1 / z", "", api.CodeDivide, 2)
	wantFault(t, "(x = 1) + 1 / 0", "x=7", api.CodeDivide, 12)
	wantFault(t, "8 / 2 / 0 / 0", "", api.CodeDivide, 6)
	wantFault(t, "8 / (2 % 0) / 0", "", api.CodeDivide, 7)
	wantFault(t, "a /= b %= 0", "b=1", api.CodeDivide, 7)
	wantValue(t, "0 << 0 >> 0 & 0", "", 0)
}

// TestP4_3Values: a value's number, or the error at the name whose value it is.
func TestP4_3Values(t *testing.T) {
	for value, want := range map[string]int64{
		"": 0, "0": 0, "7": 7, " 7": 7, "7 ": 7, "\t\n 7\n\t ": 7, "+7": 7, "-7": -7, " -7 ": -7, " +7\n": 7, "-0": 0, "+0": 0, "00": 0,
		"0x10": 16, "0X1f": 31, "-0x10": -16, "+0XaB": 171, " 0x10 ": 16, "010": 8, "-010": -8, "+0777": 511, "0x00": 0,
		"9223372036854775807": greatest, "+9223372036854775807": greatest, "-9223372036854775807": least + 1, "-9223372036854775808": least, " \n-9223372036854775808\t": least,
		"0x7fffffffffffffff": greatest, "-0x7fffffffffffffff": least + 1, "0777777777777777777777": greatest, "-0777777777777777777777": least + 1, "0000000000000000000000000000000001": 1, strings.Repeat(" ", 5000) + "-12" + strings.Repeat("\n", 5000): -12, "0x" + strings.Repeat("0", 5000) + "2": 2,
	} {
		wantValue(t, "x", "x="+value, want)
		wantValue(t, "1 ? -x : 0", "x="+value, -want)
		wantRun(t, "x = x", "x="+value, want, "x="+scan.Text(want))
		wantRun(t, "x ^= 0", "x="+value, want, "x="+scan.Text(want))
	}
	bad := map[string]int{
		" ": api.CodeValue, "\n": api.CodeValue, "\t \n": api.CodeValue, "+": api.CodeValue, "-": api.CodeValue, " - ": api.CodeValue, "1a": api.CodeValue, "a": api.CodeValue, "x": api.CodeValue, "08": api.CodeValue, "0x": api.CodeValue, "-0x": api.CodeValue, "0xg": api.CodeValue, "0x1g": api.CodeValue, "019": api.CodeValue, "1 2": api.CodeValue, "- 1": api.CodeValue, "+ 1": api.CodeValue, "--1": api.CodeValue, "++1": api.CodeValue, "+-1": api.CodeValue, "-+1": api.CodeValue, "1-": api.CodeValue, "1+1": api.CodeValue, "(1)": api.CodeValue, "~1": api.CodeValue, "1.5": api.CodeValue, "1e3": api.CodeValue, "\r1": api.CodeValue, "1\v": api.CodeValue, "\f1": api.CodeValue, "1\x00": api.CodeValue, "\x00": api.CodeValue, "\u00a01": api.CodeValue, "１": api.CodeValue, "1\xff": api.CodeValue, "0b1": api.CodeValue, "1_000": api.CodeValue, "ff": api.CodeValue,
		"9223372036854775808": api.CodeNumber, "+9223372036854775808": api.CodeNumber, "-9223372036854775809": api.CodeNumber, "18446744073709551616": api.CodeNumber, "99999999999999999999": api.CodeNumber, " -99999999999999999999 ": api.CodeNumber, "0x8000000000000000": api.CodeNumber, "0xffffffffffffffff": api.CodeNumber, "01000000000000000000000": api.CodeNumber, strings.Repeat("9", 5000): api.CodeNumber, "-" + strings.Repeat("9", 5000): api.CodeNumber,
		"9223372036854775808a": api.CodeValue, "99999999999999999999 1": api.CodeValue, "-9223372036854775808x": api.CodeValue, "+-9223372036854775808": api.CodeValue, "--9223372036854775808": api.CodeValue, "- 9223372036854775808": api.CodeValue, "-09223372036854775808": api.CodeValue, // no constants from end to end
	}
	for value, code := range bad {
		wantFault(t, "x", "x="+value, code, 0)
		wantFault(t, " x", "x="+value, code, 1)
		wantFault(t, "1 + abc", "abc="+value, code, 4)
		wantFault(t, "y = -(abc)", "abc="+value, code, 6)
		wantFault(t, " abc += 1", "abc="+value, code, 1)
		wantFault(t, "y = abc <<= 1", "abc="+value, code, 4)
		wantFault(t, "abc = abc", "abc="+value, code, 6)
		wantRun(t, "abc = 1", "abc="+value, 1, "abc=1") // whose number is not asked for
		wantRun(t, "(abc = 1) + abc", "abc="+value, 2, "abc=1")
	}
}

// TestP4_3First: of several errors the first that running meets; the variables are then as they were.
func TestP4_3First(t *testing.T) {
	const given = "bad=b;great=9223372036854775808;x=7"
	for _, c := range []struct {
		text string
		code int
		pos  int
	}{
		{"bad + great", api.CodeValue, 0}, {"great + bad", api.CodeNumber, 0}, {"bad / 0", api.CodeValue, 0}, {"1 / 0 + bad", api.CodeDivide, 2}, {"bad + 1 / 0", api.CodeValue, 0}, {"1 / bad", api.CodeValue, 4}, {"1 / (0 * bad)", api.CodeValue, 9},
		{"bad += great", api.CodeValue, 0}, {"bad /= 0", api.CodeValue, 0}, {"x /= bad", api.CodeValue, 5}, {"bad = great", api.CodeNumber, 6}, {"x = bad = great", api.CodeNumber, 10},
		{"(x = 1) + (y = 2) + bad", api.CodeValue, 20}, {"(x += 1) && (y = x) && y % 0", api.CodeDivide, 25}, {"(bad = 1) + great", api.CodeNumber, 12}, {"(great = 5) / (x = 0)", api.CodeDivide, 12}, {"x = (y = (z = 1) + 1) + bad", api.CodeValue, 24}, {"(x = 1) ? (bad ? 1 : great) : 2", api.CodeValue, 11},
		{"0 && bad || great", api.CodeNumber, 12}, {"1 || bad ? great : bad", api.CodeNumber, 11}, {"(x = 0) ? bad : great", api.CodeNumber, 16}, {"- - -bad * great", api.CodeValue, 5}, {"x % 0 ? bad : great", api.CodeDivide, 2},
		{"1 % 0 == (x = 5)", api.CodeDivide, 2}, {"(x = 5) == 1 % 0", api.CodeDivide, 13},
	} {
		wantFault(t, c.text, given, c.code, c.pos)
	}
	v := varsOf(given)
	wantTold := "bad=b;great=9223372036854775808;x=7"
	for range 3 {
		if _, err := acode.Eval([]byte("(x += 1) + (new = x) + bad"), v); err == nil || textOf(v) != wantTold {
			t.Fatal("then the variables are as they were:", textOf(v), err)
		}
	}
	wantUnset(t, v, "new")
}

// TestP4_3Examples: what the document shows.
func TestP4_3Examples(t *testing.T) {
	wantRun(t, "y = (x = 5) << 1", "", 10, "x=5;y=10")
	wantRun(t, "0 && (x = 1)", "", 0, "")
	wantFault(t, "1 / z", "", api.CodeDivide, 2)
	wantValue(t, "x", "x= 0x10 ", 16)
	wantFault(t, "x", "x=1a", api.CodeValue, 0)
	wantFault(t, "(x = 1) + 1 / 0", "x=3", api.CodeDivide, 12)
}

// TestP4_4Steps: a run goes through what it needs, up to an error.
func TestP4_4Steps(t *testing.T) {
	long := strings.Repeat("x+", 100) + "x"
	for _, c := range []struct{ fewer, more string }{
		{"0 && (" + long + ")", "1 && (" + long + ")"}, {"1 || (" + long + ")", "0 || (" + long + ")"}, {"0 ? " + long + " : 1", "1 ? " + long + " : 1"}, {"1 ? 1 : " + long, "0 ? 1 : " + long},
		{"1 / 0 + (" + long + ")", "1 / 1 + (" + long + ")"}, {"bad + (" + long + ")", "x + (" + long + ")"}, {"great + (" + long + ")", "x + (" + long + ")"}, {"(bad += 1) + (" + long + ")", "(x += 1) + (" + long + ")"}, {"(y /= 0) + (" + long + ")", "(y /= 1) + (" + long + ")"},
	} {
		v := varsOf("x=1;bad=b;great=99999999999999999999")
		fewer, more := steps(t, c.fewer, v), steps(t, c.more, v)
		if fewer+100 > more {
			t.Errorf("%.20q: %d steps; %.20q: %d", c.fewer, fewer, c.more, more)
		}
	}
	for _, text := range []string{"x = 5", "(x = 1) + (y = 2)", "(x = 1) / 0", "x += y += 1", "0 || (z = 3)", "x = bad"} {
		steps(t, text, varsOf("x=9;bad=b"))
		code := codeOf(t, text)
		if got, want := code.Steps(nil), code.Steps(acode.New()); got != want || got < 1 {
			t.Errorf("%q: %d steps with nil variables, want %d", text, got, want)
		}
	}
	v := varsOf("i=0")
	code := codeOf(t, "i ? 1 : "+long)
	before := code.Steps(v)
	v.Set("i", "1")
	if after := code.Steps(v); after >= before {
		t.Errorf("the steps hang on the variables: %d, then %d", before, after)
	}
}

// TestP4_5Eval: the error of what is no expression, and nothing set; else a run.
func TestP4_5Eval(t *testing.T) {
	for _, text := range []string{"", " ", "1 +", "08", "2 = 3", "(1", "x = 1 $", "(x = 1) 2", "x = 9223372036854775808", "99999999999999999999a", "x = 1 ? 2", "a=b=-1 ? 2 : c+=3", strings.Repeat("1", api.MaxArith+1), strings.Repeat(" ", api.MaxArith) + "1", "bad + )", "1 / 0 +"} {
		_, want := arith.Parse([]byte(text))
		for _, v := range []*acode.Vars{nil, varsOf("x=9;bad=b")} {
			before := textOf(v)
			got, err := acode.Eval([]byte(text), v)
			if got != 0 || err == nil || fault.Tell(err) != fault.Tell(want) || fault.Tell(err).Lang != api.LangArith || textOf(v) != before {
				t.Errorf("%.30q: %d, %s, want %s, then %q", text, got, fault.Text(fault.Tell(err)), fault.Text(fault.Tell(want)), textOf(v))
			}
		}
	}
	if _, err := acode.Eval(nil, nil); fault.Tell(err) != (api.Fault{Code: api.CodeSyntax, Lang: api.LangArith}) {
		t.Error(err)
	}
	wantRun(t, "\n x\t=  1 + x ", "x=1", 2, "x=2")
	wantValue(t, strings.Repeat(" ", api.MaxArith-1)+"1", "", 1)
}

// TestP4_3NilVars: nil variables are none; what is set is seen by the run, and not kept.
func TestP4_3NilVars(t *testing.T) {
	for text, want := range map[string]int64{"1 + 2": 3, "x": 0, "x + 1": 1, "x = 5": 5, "(x = 5) + x": 10, "x += 3": 3, "(a = b = 2) * a * b": 8, "!x": 1, "x || (x = 3) && x == 3": 1} {
		for range 2 {
			if got, err := codeOf(t, text).Run(nil); got != want || err != nil {
				t.Errorf("%q: %d, %v, want %d", text, got, err, want)
			}
			if got, err := acode.Eval([]byte(text), nil); got != want || err != nil {
				t.Errorf("%q by Eval: %d, %v, want %d", text, got, err, want)
			}
		}
	}
	if got, err := acode.Eval([]byte("1 / x"), nil); got != 0 || fault.Tell(err) != (api.Fault{Code: api.CodeDivide, Pos: 2, Lang: api.LangArith}) {
		t.Error(got, err)
	}
}

// TestP4_5NilCode: no expression has no code, and no code refuses to run.
func TestP4_5NilCode(t *testing.T) {
	unread, _ := arith.Parse([]byte("1 +"))
	for _, e := range []*arith.Expr{nil, unread, {}} {
		if acode.Compile(e) != nil {
			t.Error("no expression is compiled")
		}
	}
	for _, code := range []*acode.Code{nil, acode.Compile(nil), {}} {
		for _, v := range []*acode.Vars{nil, acode.New(), varsOf("x=1")} {
			before := textOf(v)
			got, err := code.Run(v)
			if got != 0 || fault.Tell(err) != (api.Fault{Code: api.CodeArg, Lang: api.LangArith}) || textOf(v) != before {
				t.Errorf("%d, %s", got, fault.Text(fault.Tell(err)))
			}
			if code.Steps(v) != 0 || code.Len() != 0 {
				t.Error(code.Steps(v), code.Len())
			}
		}
	}
}

// TestP4_6: an expression without assignments leaves the variables; other names stay.
func TestP4_6(t *testing.T) {
	const given = "A=;a= 0x10 ;b=-7;c=bad;d=9223372036854775808"
	for _, text := range []string{"1", "a", "a + b", "a ? b : c", "none", "-a * ~b", "a && none || b", "a << b >> a", "a == b != a", "!A", "none + A"} {
		v := varsOf(given)
		if _, err := codeOf(t, text).Run(v); err != nil || textOf(v) != given {
			t.Errorf("%q: %v, then %q", text, err, textOf(v))
		}
	}
	wantRun(t, "a += 1", given, 17, "A=;a=17;b=-7;c=bad;d=9223372036854775808")
	wantRun(t, "e = a", given, 16, given+";e=16")
	wantRun(t, "c = d = 2", given, 2, "A=;a= 0x10 ;b=-7;c=2;d=2")
	wantRun(t, "a == 1 ? b = 2 : (A = 3)", given, 3, "A=3;a= 0x10 ;b=-7;c=bad;d=9223372036854775808")
}

// TestP4_7: laws that hold of all numbers.
func TestP4_7(t *testing.T) {
	numbers := strings.Fields("0 1 -1 2 -2 3 -7 10 63 64 -64 255 4294967296 -4294967297 9223372036854775806 9223372036854775807 -9223372036854775807 -9223372036854775808")
	pairs := []struct {
		one, other string
		divides    bool
	}{
		{one: "~(a & b)", other: "~a | ~b"}, {one: "~(a | b)", other: "~a & ~b"}, {one: "!(a && b)", other: "!a || !b"}, {one: "!(a || b)", other: "!a && !b"},
		{one: "a - b", other: "a + -b"}, {one: "-a", other: "~a + 1"}, {one: "a ^ b", other: "(a | b) - (a & b)"}, {one: "a < b", other: "b > a"}, {one: "a <= b", other: "!(a > b)"}, {one: "a >= b", other: "!(a < b)"}, {one: "a != b", other: "!(a == b)"},
		{one: "a + b", other: "b + a"}, {one: "a * b", other: "b * a"}, {one: "a << b", other: "a << (b & 63)"}, {one: "a >> b", other: "a >> (b & 63)"}, {one: "a << b", other: "a * (1 << b)"}, {one: "!!a", other: "a != 0"}, {one: "a && b", other: "!!a & !!b"}, {one: "a || b", other: "!!(a | b)"},
		{one: "a % b", other: "a - a / b * b", divides: true}, {one: "a / b", other: "(a - a % b) / b", divides: true},
	}
	for _, a := range numbers {
		for _, b := range numbers {
			given := "a=" + a + ";b=" + b
			for _, c := range pairs {
				if !c.divides || b != "0" {
					same(t, c.one, c.other, given)
				}
			}
			for _, op := range strings.Fields("+ - * / % << >> & ^ |") {
				if b != "0" || op != "/" && op != "%" {
					same(t, "a "+op+"= b | 4", "a = a "+op+" (b | 4)", given)
				}
			}
			same(t, "a = a", "a", given)
		}
	}
	wantRun(t, "a = a", "", 0, "a=0")
	wantRun(t, "a = a", "a=\n0x1F", 31, "a=31")
}

// same: of the given variables both texts tell the same, and where both set, they set the same.
func same(t *testing.T, one, other, given string) {
	t.Helper()
	v, w := varsOf(given), varsOf(given)
	got, err := acode.Eval([]byte(one), v)
	want, errOther := acode.Eval([]byte(other), w)
	if got != want || err != nil || errOther != nil || textOf(v) != textOf(w) {
		t.Errorf("%s: %s: %d, %v, %q; %s: %d, %v, %q", given, one, got, err, textOf(v), other, want, errOther, textOf(w))
	}
}

// TestMemory: what is handed in is neither changed nor kept; code stays what it is from run to run.
func TestMemory(t *testing.T) {
	b := []byte("x = x + 12z")
	v := varsOf("x=1")
	if got, err := acode.Eval(b[:10], v); got != 13 || err != nil || string(b) != "x = x + 12z" {
		t.Errorf("%d, %v, %q", got, err, b)
	}
	e, _ := arith.Parse(b[:10])
	code := acode.Compile(e)
	tree := e.Tree()
	tree.Name, tree.Kids[0].Kids[1].Num = "spoilt", -1
	for i := range b {
		b[i] = '$'
	}
	*e = arith.Expr{}
	for i, want := range []int64{25, 37, 49} {
		if got, err := code.Run(v); got != want || err != nil {
			t.Errorf("run %d: %d, %v, want %d", i, got, err, want)
		}
	}
	if textOf(v) != "x=49" {
		t.Error(textOf(v))
	}
	other := varsOf("x=100")
	if got, err := code.Run(other); got != 112 || err != nil || textOf(v) != "x=49" {
		t.Error("the variables of another run are kept:", got, err, textOf(v))
	}
	held := v.List()
	code.Run(v)
	if held[0].Value != "49" {
		t.Error("a list is changed:", held)
	}
}

// TestManyAtOnce: two calls at one time are as one behind the other; code may be shared.
func TestManyAtOnce(t *testing.T) {
	code := codeOf(t, "i < 100 ? i += 1 : (j = i)")
	var all sync.WaitGroup
	for range 8 {
		all.Go(func() {
			v := acode.New()
			for n := range int64(110) {
				if got, err := code.Run(v); got != min(n+1, 100) || err != nil || code.Len() < 1 || code.Steps(v) < 1 {
					t.Errorf("%d: %d, %v", n, got, err)
					return
				}
			}
			if got := textOf(v); got != "i=100;j=100" {
				t.Error(got)
			}
		})
	}
	all.Wait()
}
