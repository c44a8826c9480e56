package scan_test

import (
	"fmt"
	"math"
	"math/big"
	"strconv"
	"strings"
	"testing"

	"pidgin/scan"
)

// wrongBases tells numbers that are no base.
func wrongBases() []int {
	return []int{math.MinInt, -16, -10, -2, -1, 0, 1, 17, 18, 36, 256, 1<<32 + 10, math.MaxInt}
}

// numbers tells numbers at all edges, and many between.
func numbers() []uint64 {
	list := []uint64{0, math.MaxUint64, math.MaxUint64 - 1, math.MaxInt64 + 1}
	for power := range 64 {
		for _, near := range []uint64{0, 1, 2, math.MaxUint64} { // the last is 1 less
			list = append(list, uint64(1)<<power+near)
		}
	}
	for ten := uint64(1); ten <= math.MaxUint64/10; ten *= 10 {
		list = append(list, ten-1, ten, ten+1, 7*ten)
	}
	return list
}

// bigOf tells the value of the digits, however great.
func bigOf(t *testing.T, digits string, base int) *big.Int {
	t.Helper()
	value, ok := new(big.Int).SetString(digits, base)
	if !ok {
		t.Fatalf("%q to the base %d", digits, base)
	}
	return value
}

// wantRead: digits, of a value that may be too great, then n bytes in all.
func wantRead(t *testing.T, what string, value int64, n int, over bool, want *big.Int, wantN int) {
	t.Helper()
	most := big.NewInt(math.MaxInt64)
	wantOver := want.Cmp(most) > 0
	if wantOver {
		want = most
	}
	if value != want.Int64() || n != wantN || over != wantOver {
		t.Errorf("%s: %d, %d, %v, want %v, %d, %v", what, value, n, over, want, wantN, wantOver)
	}
}

// TestP2_4Bytes: each byte is a digit of just the bases above its value.
func TestP2_4Bytes(t *testing.T) {
	const small, capital = "0123456789abcdef", "0123456789ABCDEF"
	for base := 2; base <= 16; base++ {
		for _, c := range everyByte() {
			want, n := max(strings.IndexByte(small, c), strings.IndexByte(capital, c)), 1
			if want < 0 || want >= base {
				want, n = 0, 0
			}
			if value, got, over := scan.Digits([]byte{c}, base); value != int64(want) || got != n || over {
				t.Errorf("byte %d to the base %d: %d, %d, %v", c, base, value, got, over)
			}
		}
	}
}

// TestP2_4: the longest beginning, and its value, of numbers of all sizes, with noughts ahead and bytes behind.
func TestP2_4(t *testing.T) {
	for base := 2; base <= 16; base++ {
		for _, number := range numbers() {
			digits := strconv.FormatUint(number, base)
			for _, ahead := range []string{"", "0", strings.Repeat("0", 70)} {
				for _, behind := range []string{"", "g", " 1", "\x00", "\xff1", "-", ".5", "_1"} {
					text := ahead + strings.ToUpper(digits[:len(digits)/2]) + digits[len(digits)/2:]
					value, n, over := scan.Digits([]byte(text+behind), base)
					wantRead(t, fmt.Sprintf("%q, %d", text+behind, base), value, n, over, bigOf(t, digits, base), len(text))
				}
			}
		}
	}
}

// TestP2_4Over: digits behind a value that is too great are counted all the same.
func TestP2_4Over(t *testing.T) {
	for base := 2; base <= 16; base++ {
		top := strconv.FormatInt(int64(base-1), base)
		for _, length := range []int{14, 15, 16, 17, 18, 19, 20, 21, 40, 62, 63, 64, 65, 128, 5000} {
			for _, text := range []string{strings.Repeat(top, length), "1" + strings.Repeat("0", length-1), "1" + strings.Repeat("0", length-2) + "1"} {
				value, n, over := scan.Digits([]byte(text+"~"), base)
				wantRead(t, fmt.Sprintf("%.20q.., %d digits, base %d", text, length, base), value, n, over, bigOf(t, text, base), length)
			}
		}
	}
	for _, c := range []struct {
		text string
		over bool
	}{
		{"9223372036854775806", false}, {"9223372036854775807", false}, {"9223372036854775808", true}, {"9223372036854775810", true}, {"18446744073709551615", true}, {"18446744073709551616", true}, {"18446744073709551617", true}, {"99999999999999999999", true}, {"0009223372036854775807", false}, {"0009223372036854775808", true},
	} {
		value, n, over := scan.Digits([]byte(c.text), 10)
		wantRead(t, c.text, value, n, over, bigOf(t, c.text, 10), len(c.text))
		if over != c.over {
			t.Errorf("%s: over is %v", c.text, over)
		}
	}
}

// TestP2_4Nothing: no digits, and no bases.
func TestP2_4Nothing(t *testing.T) {
	for _, b := range [][]byte{nil, {}, []byte("g1"), []byte("-1"), []byte("+1"), []byte(" 1"), []byte("\xb1"), []byte("x10")} {
		for base := 2; base <= 16; base++ {
			if value, n, over := scan.Digits(b, base); value != 0 || n != 0 || over {
				t.Errorf("%q, %d: %d, %d, %v", b, base, value, n, over)
			}
		}
	}
	for _, base := range wrongBases() {
		for _, text := range []string{"", "0", "1", "10", "g", strings.Repeat("9", 30)} {
			if value, n, over := scan.Digits([]byte(text), base); value != 0 || n != 0 || over {
				t.Errorf("%q, %d: %d, %d, %v", text, base, value, n, over)
			}
		}
	}
}

// TestP2_5: constants to the bases 10, 8 and 16.
func TestP2_5(t *testing.T) {
	for text, want := range map[string]struct {
		value int64
		n     int
	}{
		"": {}, "g": {}, "-1": {}, "+1": {}, " 1": {}, "x1": {}, "a": {}, "\xff": {},
		"0": {0, 1}, "00": {0, 2}, "7": {7, 1}, "10": {10, 2}, "19a": {19, 2}, "9_": {9, 1}, "1x1": {1, 1}, "1 2": {1, 1}, "0 1": {0, 1},
		"010": {8, 3}, "08": {0, 1}, "09": {0, 1}, "0a": {0, 1}, "0778": {63, 3}, "00x1": {0, 2}, "0b1": {0, 1}, "0o7": {0, 1}, "0_1": {0, 1},
		"0x1Fg": {31, 4}, "0X1fG": {31, 4}, "0xaBcDeF": {0xabcdef, 8}, "0x0": {0, 3}, "0x00a": {10, 5}, "0x08": {8, 4},
		"0x": {0, 1}, "0X": {0, 1}, "0xg": {0, 1}, "0x-1": {0, 1}, "0x x": {0, 1}, "0xx1": {0, 1}, "0x\xff": {0, 1}, "0X\x001": {0, 1},
	} {
		if value, n, over := scan.Const([]byte(text)); value != want.value || n != want.n || over {
			t.Errorf("%q: %d, %d, %v, want %d, %d", text, value, n, over, want.value, want.n)
		}
	}
	if value, n, over := scan.Const(nil); value != 0 || n != 0 || over {
		t.Error("of nil:", value, n, over)
	}
}

// TestP2_5Over: constants just at, and just beyond, the end.
func TestP2_5Over(t *testing.T) {
	for _, text := range []string{"9223372036854775807", "9223372036854775808", "99999999999999999999", "18446744073709551616", strings.Repeat("9", 400)} {
		value, n, over := scan.Const([]byte(text + "x"))
		wantRead(t, text, value, n, over, bigOf(t, text, 10), len(text))
	}
	for _, text := range []string{"0777777777777777777777", "01000000000000000000000", "02000000000000000000000", "00000777777777777777777777", "0" + strings.Repeat("7", 400)} {
		value, n, over := scan.Const([]byte(text + "8"))
		wantRead(t, text, value, n, over, bigOf(t, text, 8), len(text))
	}
	for _, digits := range []string{"7fffffffffffffff", "7FFFFFFFFFFFFFFF", "8000000000000000", "ffffffffffffffff", "10000000000000000", "000000000000000000007fffffffffffffff", strings.Repeat("f", 400)} {
		for _, mark := range []string{"0x", "0X"} {
			value, n, over := scan.Const([]byte(mark + digits + "g"))
			wantRead(t, mark+digits, value, n, over, bigOf(t, digits, 16), 2+len(digits))
		}
	}
}

// TestP2_5Digits: a constant is what Digits tells, to its base.
func TestP2_5Digits(t *testing.T) {
	const alphabet = "01789aFxX-g"
	for _, text := range short(alphabet, 4) {
		base, mark := 10, 0
		if strings.HasPrefix(text, "0") {
			base = 8
		}
		if len(text) > 2 && (text[:2] == "0x" || text[:2] == "0X") && strings.IndexByte("01789aF", text[2]) >= 0 {
			base, mark = 16, 2
		}
		want, wantN, _ := scan.Digits([]byte(text[mark:]), base)
		if value, n, over := scan.Const([]byte(text)); value != want || n != wantN+mark || over {
			t.Errorf("%q: %d, %d, %v, want %d, %d", text, value, n, over, want, wantN+mark)
		}
	}
}

// short tells all texts of at most length bytes of the alphabet.
func short(alphabet string, length int) []string {
	all, last := []string{""}, []string{""}
	for range length {
		var next []string
		for _, text := range last {
			for i := range len(alphabet) {
				next = append(next, text+alphabet[i:i+1])
			}
		}
		all, last = append(all, next...), next
	}
	return all
}

// TestP2_6: whole numbers, and texts that are none.
func TestP2_6(t *testing.T) {
	for s, want := range map[string]int64{
		"0": 0, "-0": 0, "00": 0, "-000": 0, "7": 7, "-007": -7, "007": 7, "08": 8, "-09": -9, "42": 42, "-42": -42,
		"9223372036854775807": math.MaxInt64, "-9223372036854775807": -math.MaxInt64, "-9223372036854775808": math.MinInt64,
		"00000000000000000000000009223372036854775807": math.MaxInt64, "-00000000000000000000000009223372036854775808": math.MinInt64,
	} {
		if got, ok := scan.Whole(s); got != want || !ok {
			t.Errorf("%q: %d, %v", s, got, ok)
		}
	}
	for _, s := range []string{
		"", "-", "+", "+1", "--1", "-+1", "+-1", "- 1", " 1", "1 ", "1\n", "\n1", "1-", "1a", "a", "0x1", "0xf", "1_0", "1.0", "1e3", "1\x00", "\x001", "1\xff", "\xb1", "-a", "１",
		"9223372036854775808", "-9223372036854775809", "9223372036854775810", "18446744073709551615", "18446744073709551616", "18446744073709551617", "-18446744073709551615", "-18446744073709551616", "-18446744073709551617", "99999999999999999999", strings.Repeat("9", 500), "-" + strings.Repeat("9", 500),
	} {
		if got, ok := scan.Whole(s); got != 0 || ok {
			t.Errorf("%q: %d, %v", s, got, ok)
		}
	}
}

// TestP2_6Short: of all short texts of signs and digits.
func TestP2_6Short(t *testing.T) {
	for _, s := range short("-+019a ", 5) {
		want, err := strconv.ParseInt(s, 10, 64)
		ok := err == nil && s[0] != '+'
		if !ok {
			want = 0
		}
		if got, is := scan.Whole(s); got != want || is != ok {
			t.Errorf("%q: %d, %v, want %d, %v", s, got, is, want, ok)
		}
	}
}

// TestP2_7Text: decimals, as short as may be.
func TestP2_7Text(t *testing.T) {
	for n, want := range map[int64]string{0: "0", 1: "1", -1: "-1", 10: "10", -10: "-10", 1234567890: "1234567890", math.MaxInt64: "9223372036854775807", math.MinInt64: "-9223372036854775808", math.MinInt64 + 1: "-9223372036854775807"} {
		if got := scan.Text(n); got != want {
			t.Errorf("%d: %q", n, got)
		}
	}
	for _, number := range numbers() {
		for _, n := range []int64{int64(number), -int64(number)} {
			if got, want := scan.Text(n), big.NewInt(n).String(); got != want {
				t.Errorf("%q, want %q", got, want)
			}
		}
	}
}

// TestP2_7Base: all bases, small letters and capitals, no needless digit.
func TestP2_7Base(t *testing.T) {
	for base := 2; base <= 16; base++ {
		for _, n := range numbers() {
			want := new(big.Int).SetUint64(n).Text(base)
			if got := scan.Base(n, base, false); got != want {
				t.Errorf("%d to the base %d: %q, want %q", n, base, got, want)
			}
			if got := scan.Base(n, base, true); got != strings.ToUpper(want) {
				t.Errorf("%d to the base %d, upper: %q", n, base, got)
			}
		}
	}
	for _, c := range []struct {
		n     uint64
		base  int
		upper bool
		want  string
	}{
		{0, 2, false, "0"}, {0, 16, true, "0"}, {5, 2, true, "101"}, {171, 16, false, "ab"}, {171, 16, true, "AB"}, {10, 11, true, "A"}, {8, 8, false, "10"}, {math.MaxUint64, 16, false, "ffffffffffffffff"}, {math.MaxUint64, 10, false, "18446744073709551615"}, {math.MaxUint64, 2, false, strings.Repeat("1", 64)},
	} {
		if got := scan.Base(c.n, c.base, c.upper); got != c.want {
			t.Errorf("Base(%d, %d, %v): %q, want %q", c.n, c.base, c.upper, got, c.want)
		}
	}
	for _, base := range wrongBases() {
		for _, n := range []uint64{0, 1, 35, math.MaxUint64} {
			if got := scan.Base(n, base, false) + scan.Base(n, base, true); got != "" {
				t.Errorf("%d to the base %d: %q", n, base, got)
			}
		}
	}
}

// TestP2_9Numbers: what is written is read again.
func TestP2_9Numbers(t *testing.T) {
	for _, number := range numbers() {
		for _, n := range []int64{int64(number), -int64(number)} {
			if got, ok := scan.Whole(scan.Text(n)); got != n || !ok {
				t.Errorf("%d: %d, %v", n, got, ok)
			}
		}
		for base := 2; base <= 16; base++ {
			for _, upper := range []bool{false, true} {
				text := scan.Base(number, base, upper)
				value, n, over := scan.Digits([]byte(text), base)
				wantRead(t, text, value, n, over, new(big.Int).SetUint64(number), len(text))
			}
		}
	}
}
