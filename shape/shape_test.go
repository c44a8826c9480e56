package shape_test

import (
	"math"
	"strconv"
	"strings"
	"sync"
	"testing"

	"pidgin/api"
	"pidgin/shape"
)

// TestP14_1: bytes, escapes and conversions.
func TestP14_1(t *testing.T) {
	for text, want := range map[string]string{
		"": "", "a": `"61"`, "ab c": `"61622063"`, "\x00\xff": `"00ff"`, "日": `"e697a5"`, `"`: `"22"`, "\n": `"0a"`, "-+ 0#.5d": `"2d2b2030232e3564"`,
		`\\`: `"5c"`, `\a`: `"07"`, `\b`: `"08"`, `\f`: `"0c"`, `\n`: `"0a"`, `\r`: `"0d"`, `\t`: `"09"`, `\v`: `"0b"`, `\\n`: `"5c6e"`, `\\\n`: `"5c0a"`, `\\\\`: `"5c5c"`, `\nn`: `"0a6e"`,
		"%%": `"25"`, "%%%%": `"2525"`, "a%%b": `"612562"`, "%%d": `"2564"`, "%%%d": `"25" %d`, "%d%%": `%d "25"`, `\\%%`: `"5c25"`, `%%\\`: `"255c"`, `\45d`: `"2564"`, `\134n`: `"5c6e"`,
		"%c": "%c", "%s": "%s", "%b": "%b", "%d": "%d", "%i": "%d", "%o": "%o", "%u": "%u", "%x": "%x", "%X": "%X",
		"%dd": `%d "64"`, "%d%d": "%d %d", "%d %d": `%d "20" %d`, "a%db": `"61" %d "62"`, "%s\n": `%s "0a"`, `%s\n`: `%s "0a"`,
		"%-d": "%-d", "%+d": "%+d", "% d": "% d", "%0d": "%0d", "%#d": "%#d", "%-+ 0#d": "%-+ 0#d", "%--d": "%-d", "%-s": "%-s", "%#c": "%#c",
		"%5d": "%5d", "%1000d": "%1000d", "%10s": "%10s", "%05d": "%05d", "%005d": "%05d", "%-05d": "%-05d", "%50d": "%50d", "%-1000.1000X": "%-1000.1000X",
		"%.5d": "%.5d", "%.d": "%.0d", "%.0d": "%.0d", "%.00d": "%.0d", "%.05d": "%.5d", "%.0001000d": "%.1000d", "%5.3d": "%5.3d", "%5.d": "%5.0d", "%05.03i": "%05.3d", "%0.0d": "%0.0d",
	} {
		wantText(t, text, want)
	}
}

// TestP14_1Octal: one to three digits to the base 8, as many as stand there; the lowest eight bits.
func TestP14_1Octal(t *testing.T) {
	for value := range 512 {
		digits := strconv.FormatInt(int64(value), 8)
		wantParts(t, `\`+digits, []api.Part{lit(string([]byte{byte(value)}))})
		wantParts(t, `a\`+digits+"8", []api.Part{lit(string([]byte{'a', byte(value), '8'}))})
		for len(digits) < 3 {
			digits = "0" + digits
			wantParts(t, `\`+digits, []api.Part{lit(string([]byte{byte(value)}))})
		}
		wantParts(t, `\`+digits+"07", []api.Part{lit(string([]byte{byte(value), '0', '7'}))})
	}
	for text, want := range map[string]string{`\0`: `"00"`, `\00`: `"00"`, `\000`: `"00"`, `\0000`: `"0030"`, `\0101`: `"0831"`, `\101`: `"41"`, `\18`: `"0138"`, `\128`: `"0a38"`, `\777`: `"ff"`, `\400`: `"00"`, `\7777`: `"ff37"`, `\1\2`: `"0102"`, `\1%d`: `"01" %d`, `\12a`: `"0a61"`, `\377\0`: `"ff00"`} {
		wantText(t, text, want)
	}
	wantText(t, `\1`+strings.Repeat("1", 1022), `"49`+strings.Repeat("31", 1020)+`"`)
}

// TestP14_1Bytes: each byte alone, behind a backslash, and where a conversion's letter stands.
func TestP14_1Bytes(t *testing.T) {
	for b := range 256 {
		text, digits := string([]byte{byte(b)}), strconv.FormatInt(0x100+int64(b), 16)[1:]
		if text != "%" && text != `\` {
			wantText(t, text, `"`+digits+`"`)
			wantText(t, "%d"+text+text+"%s", `%d "`+digits+digits+`" %s`)
		}
		if !strings.Contains(`\abfnrtv01234567`, text) {
			wantRefused(t, `\`+text, api.CodeEscape, 0)
			wantRefused(t, `a%d\n\`+text, api.CodeEscape, 5)
		}
		if strings.Contains("csbdiouxX", text) {
			want := strings.Replace(text, "i", "d", 1)
			wantText(t, "a%"+text, `"61" %`+want)
			wantText(t, "%-7.5"+text+"b", "%-7.5"+want+` "62"`)
			continue
		}
		if !strings.Contains("%-+ 0#.123456789", text) {
			wantRefused(t, "a%"+text+"d", api.CodeSyntax, 2)
			wantRefused(t, "%-+ 0#"+text+"d", api.CodeSyntax, 6)
		}
		if !strings.Contains(".0123456789", text) {
			wantRefused(t, "%5"+text+"d", api.CodeSyntax, 2)
		}
		if !strings.Contains("0123456789", text) {
			wantRefused(t, "%."+text+"d", api.CodeSyntax, 2)
			wantRefused(t, "%12.34"+text+"d", api.CodeSyntax, 6)
		}
	}
}

// TestP14_1Faults: what is refused, and where.
func TestP14_1Faults(t *testing.T) {
	for _, c := range []struct {
		text      string
		code, pos int
	}{
		{`\`, api.CodeEscape, 0}, {`a\`, api.CodeEscape, 1}, {`\q`, api.CodeEscape, 0}, {`\8`, api.CodeEscape, 0}, {`\\\`, api.CodeEscape, 2}, {`\n\c`, api.CodeEscape, 2}, {`\0\9`, api.CodeEscape, 2}, {`\x41`, api.CodeEscape, 0}, {`\"`, api.CodeEscape, 0}, {`\%`, api.CodeEscape, 0}, {`\N`, api.CodeEscape, 0}, {"\\\n", api.CodeEscape, 0}, {`%d\`, api.CodeEscape, 2}, {`%%\ `, api.CodeEscape, 2}, {`\377\`, api.CodeEscape, 4}, {`\0000\`, api.CodeEscape, 5},
		{"%", api.CodeSyntax, 1}, {"a%", api.CodeSyntax, 2}, {"%%%", api.CodeSyntax, 3}, {"%-", api.CodeSyntax, 2}, {"%5", api.CodeSyntax, 2}, {"%05", api.CodeSyntax, 3}, {"%.", api.CodeSyntax, 2}, {"%.5", api.CodeSyntax, 3}, {"%-+ 0#12.34", api.CodeSyntax, 11}, {"%d%", api.CodeSyntax, 3}, {"%0", api.CodeSyntax, 2},
		{"%-%", api.CodeSyntax, 2}, {"%0%", api.CodeSyntax, 2}, {"%5%", api.CodeSyntax, 2}, {"%.%", api.CodeSyntax, 2}, {"%.5%", api.CodeSyntax, 3}, {"%-5.3%%", api.CodeSyntax, 5}, {"%%% %d", api.CodeSyntax, 4}, {"%#%d", api.CodeSyntax, 2},
		{"%y", api.CodeSyntax, 1}, {"%D", api.CodeSyntax, 1}, {"%e", api.CodeSyntax, 1}, {"%f", api.CodeSyntax, 1}, {"%ld", api.CodeSyntax, 1}, {"%*d", api.CodeSyntax, 1}, {"%.*d", api.CodeSyntax, 2}, {"%1$d", api.CodeSyntax, 2}, {`%\n`, api.CodeSyntax, 1}, {`%5\n`, api.CodeSyntax, 2}, {"%\x00", api.CodeSyntax, 1}, {"%\nd", api.CodeSyntax, 1}, {"%'d", api.CodeSyntax, 1}, {"%(", api.CodeSyntax, 1},
		{"%5-d", api.CodeSyntax, 2}, {"%5 d", api.CodeSyntax, 2}, {"%5#d", api.CodeSyntax, 2}, {"%-5-d", api.CodeSyntax, 3}, {"%.-d", api.CodeSyntax, 2}, {"%.-5d", api.CodeSyntax, 2}, {"%.5-d", api.CodeSyntax, 3}, {"%..d", api.CodeSyntax, 2}, {"%.5.", api.CodeSyntax, 3}, {"%.5.3d", api.CodeSyntax, 3}, {"%5.3.d", api.CodeSyntax, 4}, {"%.+1d", api.CodeSyntax, 2},
	} {
		wantRefused(t, c.text, c.code, c.pos)
		wantRefused(t, "%s,"+c.text, c.code, c.pos+3)
	}
}

// TestP14_1Numbers: a width and a precision may be as great as MaxWidth, and no greater.
func TestP14_1Numbers(t *testing.T) {
	for _, n := range []int{1, 2, 9, 10, 99, 100, 255, 256, 998, 999, 1000} {
		digits := strconv.Itoa(n)
		wantText(t, "%"+digits+"d", "%"+digits+"d")
		wantText(t, "%0"+digits+"d", "%0"+digits+"d")
		wantText(t, "%00-000"+digits+"d", "%-0"+digits+"d")
		wantText(t, "%."+digits+"s", "%."+digits+"s")
		wantText(t, "%.000"+digits+"s", "%."+digits+"s")
		wantText(t, "%"+digits+"."+digits+"x", "%"+digits+"."+digits+"x")
		wantParts(t, "%"+digits+".0"+digits+"x", []api.Part{{Conv: 'x', Width: n, Prec: n}})
	}
	for _, digits := range []string{"1001", "1002", "1010", "1100", "2000", "9999", "10000", "99999", "65536", "65537", "4294967296", "4294967297", "9223372036854775807", "9223372036854775808", "18446744073709551616", "18446744073709551617", "99999999999999999999999999"} {
		for _, behind := range []string{"d", "", "%", "y", "-", ".5d", ".1001d", `\`} {
			wantRefused(t, "%"+digits+behind, api.CodeNumber, 1)
			wantRefused(t, "a%-0"+digits+behind, api.CodeNumber, 4)
			wantRefused(t, "%."+digits+behind, api.CodeNumber, 2)
			wantRefused(t, "%.00"+digits+behind, api.CodeNumber, 2)
			wantRefused(t, "%+1000."+digits+behind, api.CodeNumber, 7)
		}
	}
	wantText(t, "%"+strings.Repeat("0", 1018)+"1000d", "%01000d")
	wantRefused(t, "%"+strings.Repeat("0", 1018)+"1001d", api.CodeNumber, 1019)
	wantText(t, "%."+strings.Repeat("0", 1017)+"1000d", "%.1000d")
	wantRefused(t, "%."+strings.Repeat("0", 1017)+"1001d", api.CodeNumber, 2)
	wantRefused(t, "%"+strings.Repeat("9", 1022)+"d", api.CodeNumber, 1)
}

// TestP14_1First: of several faults the first is told.
func TestP14_1First(t *testing.T) {
	for _, c := range []struct {
		text      string
		code, pos int
	}{
		{`\q%y`, api.CodeEscape, 0}, {`%y\q`, api.CodeSyntax, 1}, {`%1001y\q`, api.CodeNumber, 1}, {`%5y%1001d`, api.CodeSyntax, 2}, {`%1001.1001y`, api.CodeNumber, 1}, {`%1.1001y`, api.CodeNumber, 3}, {`a\9%`, api.CodeEscape, 1}, {`%d%5%\`, api.CodeSyntax, 4}, {`%-%\8`, api.CodeSyntax, 2}, {`\`, api.CodeEscape, 0}, {`%\`, api.CodeSyntax, 1}, {`%.1001`, api.CodeNumber, 2}, {`\n\q\`, api.CodeEscape, 2},
	} {
		wantRefused(t, c.text, c.code, c.pos)
	}
}

// TestP14_1Long: as many bytes as may be, and no more; a text that is too long is refused ahead of what stands in it.
func TestP14_1Long(t *testing.T) {
	for _, unit := range []string{"a", `\n`, "%%", "%d", `\\`, `\123`, "%5d\x00", "%.10s!%c", "\xff"} {
		full := strings.Repeat(unit, api.MaxForm/len(unit))
		if len(full) != api.MaxForm {
			t.Fatal(unit, len(full))
		}
		check(t, full)
		parse(t, full)
		for _, more := range []string{"a", "%", `\`, "%d", `\q`, full} {
			wantRefused(t, full+more, api.CodeLong, 0)
			wantRefused(t, more+full, api.CodeLong, 0)
		}
	}
	most := strings.Repeat("a", api.MaxForm-1)
	wantRefused(t, most+`\`, api.CodeEscape, 1023)
	wantRefused(t, most+"%", api.CodeSyntax, 1024)
	wantRefused(t, most+"%d", api.CodeLong, 0)
	wantRefused(t, strings.Repeat("%y", 513), api.CodeLong, 0)
	wantRefused(t, strings.Repeat(`\`, 1025), api.CodeLong, 0)
	wantRefused(t, strings.Repeat("%", 1<<20), api.CodeLong, 0)
}

// TestP14_2: the parts as data.
func TestP14_2(t *testing.T) {
	wantParts(t, "", nil)
	wantParts(t, "abc", []api.Part{lit("abc")})
	wantParts(t, `a\n%%b\101%`+"%", []api.Part{lit("a\n%bA%")})
	wantParts(t, "%d", []api.Part{{Conv: 'd', Prec: -1}})
	wantParts(t, "%i", []api.Part{{Conv: 'd', Prec: -1}})
	wantParts(t, "%i%d%5i", []api.Part{{Conv: 'd', Prec: -1}, {Conv: 'd', Prec: -1}, {Conv: 'd', Width: 5, Prec: -1}})
	wantParts(t, `a%-5.3d\n%%`, []api.Part{lit("a"), {Conv: 'd', Minus: true, Width: 5, Prec: 3}, lit("\n%")})
	wantParts(t, "%.s%.0s%.00s", []api.Part{{Conv: 's'}, {Conv: 's'}, {Conv: 's'}})
	wantParts(t, "%0s", []api.Part{{Conv: 's', Zero: true, Prec: -1}})
	wantParts(t, "%00007c%%%c", []api.Part{{Conv: 'c', Zero: true, Width: 7, Prec: -1}, lit("%"), {Conv: 'c', Prec: -1}})
	wantParts(t, "% ++ #12.34X", []api.Part{{Conv: 'X', Plus: true, Space: true, Alt: true, Width: 12, Prec: 34}})
	wantParts(t, "x%bx%ox%ux%xx", []api.Part{lit("x"), {Conv: 'b', Prec: -1}, lit("x"), {Conv: 'o', Prec: -1}, lit("x"), {Conv: 'u', Prec: -1}, lit("x"), {Conv: 'x', Prec: -1}, lit("x")})
}

// TestP14_2Flags: each flag is told where it stands, of each conversion.
func TestP14_2Flags(t *testing.T) {
	for mask := range 1 << 5 {
		for _, letter := range []byte("csbdouxX") {
			want := api.Part{Conv: letter, Minus: mask&1 != 0, Plus: mask&2 != 0, Space: mask&4 != 0, Zero: mask&8 != 0, Alt: mask&16 != 0, Prec: -1}
			text := "%" + flagged(mask)
			wantParts(t, text+string(rune(letter)), []api.Part{want})
			wantText(t, text+string(rune(letter)), text+string(rune(letter)))
			want.Width, want.Prec = 10, 0
			wantParts(t, text+"10."+string(rune(letter)), []api.Part{want})
			wantText(t, text+"10."+string(rune(letter)), text+"10.0"+string(rune(letter)))
		}
	}
}

// TestP14_2Wants: as many as there are conversions; what is printed as it is wants nothing.
func TestP14_2Wants(t *testing.T) {
	for text, want := range map[string]int{"": 0, "abc": 0, "%%": 0, `\n`: 0, "%%d%%": 0, "%d": 1, "%d%%": 1, "%s %s": 2, "%c%s%b%d%i%o%u%x%X": 9, "a%5.3db%%c%-s": 2, `\45d%d`: 1, strings.Repeat("%d", 512): 512, strings.Repeat("%%", 512): 0, strings.Repeat("%u\n", 341): 341} {
		if got := parse(t, text).Wants(); got != want {
			t.Errorf("Wants of %.300q: %d, want %d", text, got, want)
		}
	}
}

// TestP14_2Text: what stands side by side is one, however it is written.
func TestP14_2Text(t *testing.T) {
	for text, want := range map[string]string{
		`a\nb%%c`: `"610a622563"`, `\141\142c`: `"616263"`, `%%\t%%`: `"250925"`, "%d%d%%%d": `%d %d "25" %d`, `\0\377%s\17`: `"00ff" %s "0f"`, " %s ": `"20" %s "20"`, "%s%%s": `%s "2573"`, "\x0f\xf0\xab": `"0ff0ab"`, "%#0 +-i": "%-+ 0#d", "%+0#X%0 -c": "%+0#X %- 0c",
	} {
		wantText(t, text, want)
	}
}

// TestP14_3: a format without % and \ is one Lit of its bytes; flags mean the same in any order.
func TestP14_3(t *testing.T) {
	for b := range 256 {
		if text := string([]byte{byte(b)}); text != "%" && text != `\` {
			wantParts(t, text, []api.Part{lit(text)})
			wantParts(t, "-5.3d"+text+"n"+text, []api.Part{lit("-5.3d" + text + "n" + text)})
		}
	}
	for _, text := range []string{"% 0+-#5.1d", "%#-+0 5.1d", "%--  ++00##5.1d", "%-0-0-0+ #+ #5.1d", "%00000#+ -5.1i", "%" + strings.Repeat("#0 +-", 200) + "5.01i"} {
		wantText(t, text, "%-+ 0#5.1d")
	}
}

// TestExamples: what the document shows.
func TestExamples(t *testing.T) {
	wantText(t, `a%-5.3d\n%%`, `"61" %-5.3d "0a25"`)
	wantText(t, "%00 +5s", "%+ 05s")
	wantText(t, "%.x", "%.0x")
	wantRefused(t, "%5", api.CodeSyntax, 2)
	wantText(t, `\400`, `"00"`)
	wantRefused(t, `\q`, api.CodeEscape, 0)
	wantRefused(t, "%1001d", api.CodeNumber, 1)
	wantRefused(t, "%y", api.CodeSyntax, 1)
}

// TestReadme: what README.md shows.
func TestReadme(t *testing.T) {
	f := parse(t, `%s: %05i\n`)
	if got := f.Text(); got != `%s "3a20" %05d "0a"` {
		t.Error("Text:", got)
	}
	if got := f.Wants(); got != 2 {
		t.Error("Wants:", got)
	}
	if got := f.Parts()[2]; got.Conv != 'd' || !got.Zero || got.Width != 5 || got.Prec != -1 {
		t.Error("Parts:", got)
	}
	_, err := shape.Parse([]byte("%-5%"))
	if got := faultText(err); got != "printf:3: syntax" {
		t.Error(got)
	}
}

// TestNil: a format that is none tells nothing; one that was not read is one of no parts.
func TestNil(t *testing.T) {
	var none *shape.Format
	for _, f := range []*shape.Format{none, new(shape.Format)} {
		if len(f.Parts()) > 0 || f.Text() != "" || f.Wants() != 0 {
			t.Error(f.Parts(), f.Text(), f.Wants())
		}
	}
	for _, b := range [][]byte{nil, {}} {
		if f, err := shape.Parse(b); f == nil || err != nil || len(f.Parts()) > 0 || f.Text() != "" || f.Wants() != 0 {
			t.Error(f.Parts(), f.Text(), f.Wants(), faultText(err))
		}
	}
}

// TestKept: what is handed in stays as it is and is not kept; what lies behind its length is neither read nor written.
func TestKept(t *testing.T) {
	whole := []byte(`a\n%-5.3d%%\1234b%s`)
	for length := range len(whole) + 1 {
		text := string(whole[:length])
		f, err := shape.Parse(whole[:length])
		parts, why := partsOf(text)
		if (err == nil) != (why == api.Fault{}) || !equal(f.Parts(), parts) || string(whole) != `a\n%-5.3d%%\1234b%s` {
			t.Errorf("%q, with more behind it: %v, %s, want %v", text, f.Parts(), faultText(err), parts)
		}
	}
	b := []byte("ab%dcd")
	f, err := shape.Parse(b)
	if err != nil {
		t.Fatal(faultText(err))
	}
	for i := range b {
		b[i] = '#'
	}
	if got := f.Text(); got != `"6162" %d "6364"` {
		t.Error(got)
	}
}

// TestKeptOwn: Parts tells a copy of its own each time, and no two lists in it share memory.
func TestKeptOwn(t *testing.T) {
	const text = `"616263" %5d "64656667" %s "68"`
	f := parse(t, "abc%5ddefg%sh")
	told, other := f.Parts(), f.Parts()
	for i := range told {
		_ = append(told[i].Lit, "########"...)
	}
	if !equal(told, other) {
		t.Errorf("what is behind one list is another's: %v", told)
	}
	_ = append(told[:2], api.Part{Conv: '#', Width: math.MaxInt})
	for i := range told {
		all := told[i].Lit[:cap(told[i].Lit)]
		for k := range all {
			all[k] = '#'
		}
		told[i] = api.Part{Lit: all, Conv: '#', Width: -1, Alt: true}
	}
	want := []api.Part{lit("abc"), {Conv: 'd', Width: 5, Prec: -1}, lit("defg"), {Conv: 's', Prec: -1}, lit("h")}
	if !equal(other, want) || !equal(f.Parts(), want) || f.Text() != text || f.Wants() != 2 {
		t.Errorf("%v, %s, %d", other, f.Text(), f.Wants())
	}
}

// TestMany: one format at one time.
func TestMany(t *testing.T) {
	f := parse(t, `%-+5.3i|\t%%%s`)
	var workers sync.WaitGroup
	for range 8 {
		workers.Go(func() {
			for range 200 {
				parts := f.Parts()
				if f.Text() != `%-+5.3d "7c0925" %s` || f.Wants() != 2 || string(parts[1].Lit) != "|\t%" {
					t.Error("another answer")
				}
				parts[1].Lit[0] = '#'
			}
		})
	}
	workers.Wait()
}
