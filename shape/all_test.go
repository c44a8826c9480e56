package shape_test

import (
	"math/rand"
	"strings"
	"testing"

	"pidgin/api"
	"pidgin/fault"
	"pidgin/shape"
)

// check holds what is read of a text against the second reading.
func check(t *testing.T, text string) {
	t.Helper()
	f, err := shape.Parse([]byte(text))
	parts, why := partsOf(text)
	if fault.Tell(err) != why || (f == nil) != (err != nil) {
		t.Fatalf("Parse(%.300q): %s, want %s", text, faultText(err), fault.Text(why))
	}
	if f == nil {
		return
	}
	if got := f.Parts(); !equal(got, parts) {
		t.Fatalf("Parts of %.300q: %.600v, want %.600v", text, got, parts)
	}
	if got := f.Text(); got != textOf(parts) {
		t.Fatalf("Text of %.300q: %.600s, want %.600s", text, got, textOf(parts))
	}
	if got := f.Wants(); got != wantsOf(parts) {
		t.Fatalf("Wants of %.300q: %d, want %d", text, got, wantsOf(parts))
	}
}

// TestP14_1All: all short rows of the bytes that have a meaning, and of some that have none.
func TestP14_1All(t *testing.T) {
	t.Parallel()
	rows(strings.Split(`%\-0.8d`, ""), 6, func(text string) { check(t, text) })
	rows(strings.Split(`%\+ #1n`, ""), 6, func(text string) { check(t, text) })
	rows([]string{"%", `\`, "7", "i", "X", "a", "9", "%%", "\x00", "\xff"}, 5, func(text string) { check(t, text) })
	rows([]string{"%", "0", "5", "1000", "1001", ".", "x", "-", `\1`}, 5, func(text string) { check(t, text) })
}

// TestP14_1AllConversions: all rows of what stands in one conversion.
func TestP14_1AllConversions(t *testing.T) {
	t.Parallel()
	for _, flags := range []string{"", "-", "+", " ", "0", "#", "00", "0-", "# +", "-+ 0#", "#0 +-", "--++"} {
		for _, width := range []string{"", "1", "10", "09", "999", "1000", "1001", "9999", "10000", "9223372036854775808"} {
			for _, prec := range []string{"", ".", ".0", ".00", ".1", ".007", ".1000", ".1001", ".0001000", ".0001001", ".-1", ".+", "..", ".99999999999999999999", ".3.4"} {
				for _, letter := range []string{"c", "s", "b", "d", "i", "o", "u", "x", "X", "e", "f", "g", "l", "D", "%", "*", "-", " ", `\`, "\n", "\x00", ""} {
					conversion := "%" + flags + width + prec + letter
					check(t, conversion)
					check(t, "%d"+conversion+"%s")
					check(t, `a\n`+conversion+"z%y")
				}
			}
		}
	}
}

// TestP14_1AllLong: longer rows, made at random.
func TestP14_1AllLong(t *testing.T) {
	t.Parallel()
	tokens := []string{"a", "bc", "%%", `\\`, `\n`, `\a`, `\b`, `\f`, `\r`, `\t`, `\v`, `\0`, `\7`, `\12`, `\377`, `\777`, `\1234`, "8", "%d", "%-5i", "%+.3u", "% 07o", "%#.x", "%1000X", "%.1000s", "%c", "%00b", "\x00", "\xff", "日", " ", `"`, "."}
	faults := []string{`\`, "%", `\q`, "%y", "%1001d", "%.1001d", "%5%", "%-", `\8`}
	r := rand.New(rand.NewSource(14))
	for seed := range 20000 {
		text, broken := "", r.Intn(40)
		for i := range r.Intn(40) {
			if seed%3 == 0 && i == broken {
				text += faults[r.Intn(len(faults))]
			}
			text += tokens[r.Intn(len(tokens))]
		}
		check(t, text)
	}
}

// TestP14_1AllBytes: any bytes at random, of any length up to beyond what may be.
func TestP14_1AllBytes(t *testing.T) {
	t.Parallel()
	r := rand.New(rand.NewSource(41))
	for range 2000 {
		text := make([]byte, r.Intn(1100))
		for i := range text {
			text[i] = byte(r.Intn(256))
		}
		check(t, string(text))
	}
	for range 20000 {
		text := make([]byte, r.Intn(12))
		for i := range text {
			text[i] = `%%\\-+ 0#.123789csbdiouxXanq`[r.Intn(28)]
		}
		check(t, string(text))
	}
}

// TestP14_3All: a format without % and \ is one Lit of its bytes.
func TestP14_3All(t *testing.T) {
	t.Parallel()
	r := rand.New(rand.NewSource(3))
	for length := 1; length <= api.MaxForm; length++ {
		text := make([]byte, length)
		for i := range text {
			for text[i] = '%'; text[i] == '%' || text[i] == '\\'; {
				text[i] = byte(r.Intn(256))
			}
		}
		wantParts(t, string(text), []api.Part{{Lit: text}})
	}
}

// TestP14_3Orders: each set of flags, in every order, each as often as one likes.
func TestP14_3Orders(t *testing.T) {
	t.Parallel()
	for mask := range 1 << 5 {
		chosen := flagged(mask)
		for _, rest := range []string{"d", "5i", "1000X", ".s", "12.34u", ".0c"} {
			want := parse(t, "%"+chosen+rest).Text()
			orders(chosen, func(order string) {
				for _, text := range []string{order, order + order, order + chosen, chosen + order + order, strings.Repeat(order, 20)} {
					wantText(t, "%"+text+rest, want)
				}
			})
		}
	}
}
