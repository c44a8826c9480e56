package retext_test

import (
	"reflect"
	"strconv"
	"strings"
	"sync"
	"testing"

	"pidgin/api"
	"pidgin/fault"
	"pidgin/retext"
)

// TestP8_1Empty: the empty text is no expression of either grammar.
func TestP8_1Empty(t *testing.T) {
	for _, b := range [][]byte{nil, {}, []byte("abc")[:0]} {
		for _, ext := range []bool{basic, extended} {
			r, err := retext.Parse(b, ext)
			if want := (api.Fault{Code: api.CodeSyntax, Lang: langOf(ext)}); r != nil || fault.Tell(err) != want {
				t.Errorf("extended %v: %v, %v", ext, r, err)
			}
		}
	}
}

// TestP8_1Long: up to 256 bytes are read; more are refused, whatever they are.
func TestP8_1Long(t *testing.T) {
	for _, unit := range []string{"a", ".", "]", "\x00", "\xff", `\n`, `\\`, "[ab]", "[]-a]xa*", "é"} {
		full := strings.Repeat(unit, api.MaxRe/len(unit))
		for _, ext := range []bool{basic, extended} {
			parse(t, full, ext)
			parse(t, full[len(unit):], ext)
			for _, more := range []string{"a", "*", ")", `\`, "\x00", "[", unit, full} {
				wantFault(t, full+more, ext, api.CodeLong, 0)
				wantFault(t, more+full, ext, api.CodeLong, 0)
			}
		}
	}
	for _, text := range []string{"[", "(", "{", "*", `\`, `\)`, "^*"} {
		for _, ext := range []bool{basic, extended} {
			wantFault(t, strings.Repeat(text, 257), ext, api.CodeLong, 0)
			wantFault(t, strings.Repeat(text, 1<<16), ext, api.CodeLong, 0)
		}
	}
	wantBoth(t, strings.Repeat("a", 256), hexes(strings.Repeat("a", 256)))
	stars := "a" + strings.Repeat("*", 255)
	wantBoth(t, stars, strings.Repeat("(rep 0 - ", 255)+"[61]"+strings.Repeat(")", 255))
	wantFault(t, stars+"*", basic, api.CodeLong, 0)
	wantText(t, strings.Repeat("a|", 127)+"bc", extended, "(alt "+strings.Repeat("[61] ", 127)+"(cat [62] [63]))")
	wantFault(t, strings.Repeat("a|", 128), extended, api.CodeSyntax, 256)
	wantFault(t, strings.Repeat("a", 255)+`\`, basic, api.CodeEscape, 255)
	wantFault(t, strings.Repeat("a", 255)+"[", extended, api.CodeBracket, 256)
}

// TestP8_1Intervals: the numbers of an interval.
func TestP8_1Intervals(t *testing.T) {
	forms := []int{0, 1, 2, 9, 10, 99, 100, 199, 254, 255, 256, 257, 299, 300, 512, 999}
	for _, least := range forms {
		m := strconv.Itoa(least)
		wantInterval(t, m, least <= api.MaxTimes, m+" "+m)
		wantInterval(t, m+",", least <= api.MaxTimes, m+" -")
		for _, most := range forms {
			n := strconv.Itoa(most)
			wantInterval(t, m+","+n, least <= most && most <= api.MaxTimes, m+" "+n)
		}
	}
	for text, want := range map[string]string{"00": "0 0", "000": "0 0", "01,": "1 -", "001,010": "1 10", "08": "8 8", "010": "10 10", "255,0255": "", "099,255": "99 255"} {
		wantInterval(t, text, want != "", want)
	}
	for _, text := range []string{"", ",", ",2", ",,", "0000", "0001", "1000", "2560", "99999999999999999999", "1,0002", "1,1000", "0001,2", "1,99999999999999999999", "1,,2", "1,2,", "1,2,3", " 1", "1 ", "1, 2", "1 ,2", "-1", "+1", "1,-2", "1,+2", "0x1", "a", "1a", "1,a", "1;2", "1.5", "*", "1*", "{", "1{1", `\`, `1\`, "[", "1[}]"} {
		wantInterval(t, text, false, "")
	}
	for _, text := range []string{"", "1", "12", "123", "1,", "1,2", "1,234", "{1", "\n", "1)", "1\\\\"} { // without what closes
		wantFault(t, `a\{`+text, basic, api.CodeRange, 1)
		wantFault(t, "(a){"+text, extended, api.CodeRange, 3)
		wantFault(t, `a\{`+text+"}", basic, api.CodeRange, 1)
		wantFault(t, "(a){"+text+"|b)", extended, api.CodeRange, 3)
	}
	wantText(t, `a\{1\}}`, basic, "(cat (rep 1 1 [61]) [7d])")
	wantFault(t, `a{1\}`, extended, api.CodeRange, 1)
	wantText(t, `a\{1\}`, extended, hexes("a{1}"))
	wantText(t, "a{1}", basic, hexes("a{1}"))
}

// wantInterval: what stands between the braces is an interval of those numbers, or none, in both grammars.
func wantInterval(t *testing.T, text string, ok bool, want string) {
	t.Helper()
	if !ok {
		wantFault(t, `a\{`+text+`\}`, basic, api.CodeRange, 1)
		wantFault(t, `b\(.*\{`+text+`\}`, basic, api.CodeRange, 5)
		wantFault(t, "a{"+text+"}", extended, api.CodeRange, 1)
		wantFault(t, "b(.+{"+text+"}", extended, api.CodeRange, 4)
		return
	}
	wantText(t, `a\{`+text+`\}`, basic, "(rep "+want+" [61])")
	wantText(t, `b.\{`+text+`\}*c`, basic, "(cat [62] (rep 0 - (rep "+want+" .)) [63])")
	wantText(t, "a{"+text+"}", extended, "(rep "+want+" [61])")
	wantText(t, "b.{"+text+"}+c", extended, "(cat [62] (rep 1 - (rep "+want+" .)) [63])")
}

// TestP8_1Groups: nine groups may be, in one another and beside one another; not ten.
func TestP8_1Groups(t *testing.T) {
	for n := 1; n <= 12; n++ {
		nested, beside := "a", ""
		var words []string
		for k := range n {
			nested = "(" + nested + ")"
			beside += "(a)"
			words = append(words, "(group "+strconv.Itoa(k+1)+" [61])")
		}
		if n > api.MaxGroups {
			wantFault(t, nested, extended, api.CodeMany, 9)
			wantFault(t, beside, extended, api.CodeMany, 27)
			wantFault(t, inBasic(nested), basic, api.CodeMany, 18)
			wantFault(t, inBasic(beside), basic, api.CodeMany, 45)
			continue
		}
		wantText(t, beside, extended, wrap("cat", words))
		wantText(t, inBasic(beside), basic, wrap("cat", words))
		want := ""
		for k := range n {
			want += "(group " + strconv.Itoa(k+1) + " "
		}
		want += "[61]" + strings.Repeat(")", n)
		wantText(t, nested, extended, want)
		wantText(t, inBasic(nested), basic, want)
	}
	wantFault(t, strings.Repeat("(", 10), extended, api.CodeMany, 9)
	wantFault(t, strings.Repeat("(", 9), extended, api.CodeSyntax, 9)
	wantFault(t, strings.Repeat("(a)|", 9)+"(", extended, api.CodeMany, 36)
	wantFault(t, strings.Repeat(`\(`, 10), basic, api.CodeMany, 18)
	wantFault(t, strings.Repeat(`\(`, 9)+`\)`, basic, api.CodeSyntax, 18)
	wantFault(t, strings.Repeat("(a)", 9)+"*)", extended, api.CodeGroup, 28)
	wantText(t, strings.Repeat("(a)", 9)+`\([(]`, extended, "(cat "+groupsOfA(9)+" [28] [28])")
}

// inBasic writes an extended text of bytes and groups in the basic grammar.
func inBasic(text string) string {
	return strings.NewReplacer("(", `\(`, ")", `\)`).Replace(text)
}

// groupsOfA writes n groups of an a, one behind the other.
func groupsOfA(n int) string {
	var words []string
	for k := range n {
		words = append(words, "(group "+strconv.Itoa(k+1)+" [61])")
	}
	return strings.Join(words, " ")
}

// TestP8_1Brackets: brackets in both grammars: a backslash and a ! are bytes in them.
func TestP8_1Brackets(t *testing.T) {
	for text, want := range map[string]string{
		"[a]": "[61]", "[ba]": "[61-62]", "[^a]": "[00-60,62-ff]", "[!a]": "[21,61]", "[]]": "[5d]", "[^]]": "[00-5c,5e-ff]", "[]a]": "[5d,61]", "[a-c]": "[61-63]", "[a-]": "[2d,61]", "[--/]": "[2d-2f]", "[[:digit:]x]": "[30-39,78]", `[\]`: "[5c]", `[\n]`: "[5c,6e]", `[a\]`: "[5c,61]", "[.]": "[2e]", "[.*+?^$(){}|]": "[24,28-2b,2e,3f,5e,7b-7d]", "[*]": "[2a]", "[[]": "[5b]", "[\n]": "[0a]", "[^\x00-\xff]": "[]", "[\x00-\xff]": ".", "[^\x80-\xff]": "[00-7f]", "[^[:cntrl:]]": "[20-7e,80-ff]", "[\xe9]": "[e9]",
	} {
		wantBoth(t, text, want)
		wantBoth(t, "x"+text+"]", "(cat [78] "+want+" [5d])")
		wantBoth(t, text+text+"*", "(cat "+want+" (rep 0 - "+want+"))")
		wantBoth(t, "^"+text+"$", "(cat ^ "+want+" $)")
		wantText(t, "("+text+")|"+text, extended, "(alt (group 1 "+want+") "+want+")")
		wantText(t, `\(`+text+`\)`+text+`\{2\}`, basic, "(cat (group 1 "+want+") (rep 2 2 "+want+"))")
	}
	for _, ahead := range []string{"", "a", "ab*", ".[^a]", `\[`, "[)]"} {
		for _, ext := range []bool{basic, extended} {
			at := len(ahead)
			wantFault(t, ahead+"[", ext, api.CodeBracket, at+1)
			wantFault(t, ahead+"[^", ext, api.CodeBracket, at+2)
			wantFault(t, ahead+"[]", ext, api.CodeBracket, at+2)
			wantFault(t, ahead+"[^]abc", ext, api.CodeBracket, at+6)
			wantFault(t, ahead+"[z-a]", ext, api.CodeRange, at+1)
			wantFault(t, ahead+"[xz-a", ext, api.CodeRange, at+2)
			wantFault(t, ahead+"[[:digits:]]", ext, api.CodeBracket, at+1)
			wantFault(t, ahead+"[a[.b.]]", ext, api.CodeBracket, at+2)
			wantFault(t, ahead+"[a-[:digit:]]", ext, api.CodeBracket, at+3)
		}
	}
}

// TestP8_2Tree: each kind with its fields, and no others.
func TestP8_2Tree(t *testing.T) {
	a, b := setOf('a'), setOf('b')
	begin, end := api.Re{Kind: api.ReBegin}, api.Re{Kind: api.ReEnd}
	for _, c := range []struct {
		text string
		ext  bool
		want api.Re
	}{
		{"a", basic, a}, {"a", extended, a}, {"^", basic, begin}, {"$", extended, end}, {"[ab\xff]", basic, setOf('a', 'b', 255)}, {"[^\x00-\xff]", extended, setOf()},
		{".", basic, api.Re{Kind: api.ReSet, Set: api.Set{1<<64 - 1, 1<<64 - 1, 1<<64 - 1, 1<<64 - 1}}},
		{"ab", basic, api.Re{Kind: api.ReCat, Kids: []api.Re{a, b}}},
		{"a|b", extended, api.Re{Kind: api.ReAlt, Kids: []api.Re{a, b}}},
		{"a*", basic, api.Re{Kind: api.ReRep, Max: -1, Kids: []api.Re{a}}},
		{"a+", extended, api.Re{Kind: api.ReRep, Min: 1, Max: -1, Kids: []api.Re{a}}},
		{"a?", extended, api.Re{Kind: api.ReRep, Max: 1, Kids: []api.Re{a}}},
		{"a{3,7}", extended, api.Re{Kind: api.ReRep, Min: 3, Max: 7, Kids: []api.Re{a}}},
		{`\(a\)`, basic, api.Re{Kind: api.ReGroup, Group: 1, Kids: []api.Re{a}}},
		{"^(a|b(b)*)$", extended, api.Re{Kind: api.ReCat, Kids: []api.Re{begin, {Kind: api.ReGroup, Group: 1, Kids: []api.Re{{Kind: api.ReAlt, Kids: []api.Re{a, {Kind: api.ReCat, Kids: []api.Re{b, {Kind: api.ReRep, Max: -1, Kids: []api.Re{{Kind: api.ReGroup, Group: 2, Kids: []api.Re{b}}}}}}}}}}, end}}},
	} {
		r := parse(t, c.text, c.ext)
		for range 2 {
			told := r.Tree()
			if !reflect.DeepEqual(told, c.want) {
				t.Errorf("%q: %v, want %v", c.text, told, c.want)
			}
			spoil(&told)
		}
	}
}

// spoil writes over a tree, and behind each list of kids.
func spoil(re *api.Re) {
	for i := range re.Kids {
		spoil(&re.Kids[i])
	}
	_ = append(re.Kids, api.Re{Kind: 99})
	*re = api.Re{Kind: 77, Set: api.Set{7, 7, 7, 7}, Min: 7, Max: 7, Group: 7}
}

// TestP8_2Own: each tree that is told is the caller's own, and no two lists in it share memory.
func TestP8_2Own(t *testing.T) {
	r := parse(t, "(a|b|c)(d*|ef)+x", extended)
	want := r.Text()
	first, second := r.Tree(), r.Tree()
	spoil(&first)
	if got := textOf(t, second); got != want || r.Text() != want || textOf(t, r.Tree()) != want {
		t.Errorf("a tree that was told is written over, and another one with it: %s, %s, want %s", got, r.Text(), want)
	}
	var grow func(re *api.Re)
	grow = func(re *api.Re) {
		_ = append(re.Kids, api.Re{Kind: 99}, api.Re{Kind: 99}, api.Re{Kind: 99})
		for i := range re.Kids {
			grow(&re.Kids[i])
		}
	}
	grow(&second)
	if got := textOf(t, second); got != want {
		t.Errorf("lists of one tree share memory: %s, want %s", got, want)
	}
}

// TestP8_2Groups: how many groups, and which grammar.
func TestP8_2Groups(t *testing.T) {
	for text, want := range map[string]int{"a": 0, "(a)": 1, "(a)(b)": 2, "((a))": 2, "(a)*(b|(c))": 3, `\(a\)`: 0, "[(]": 0, "((((((((a))))))))": 8} {
		if r := parse(t, text, extended); r.Groups() != want || !r.Ext() {
			t.Errorf("%q: %d groups, want %d; extended %v", text, r.Groups(), want, r.Ext())
		}
	}
	for text, want := range map[string]int{"a": 0, "(a)": 0, `\(a\)`: 1, `\(a\)\(b\)*`: 2, `\(\(a\)\)`: 2, `[\(]`: 0, `\\(`: 0} {
		if r := parse(t, text, basic); r.Groups() != want || r.Ext() {
			t.Errorf("%q: %d groups, want %d; extended %v", text, r.Groups(), want, r.Ext())
		}
	}
}

// TestP8_3: each byte as an atom of the grammar.
func TestP8_3(t *testing.T) {
	eachByte(func(b byte, text string) {
		for _, ext := range []bool{basic, extended} {
			want := text
			switch {
			case b == '\n':
				want = `\n`
			case strings.Contains(`.[]*^$/\`, text), ext && strings.Contains("()+?{}|", text):
				want = `\` + text
			}
			if got := retext.Quote(text, ext); got != want {
				t.Errorf("Quote(%q, %v): %q, want %q", text, ext, got, want)
			}
			if got := retext.Quote("n"+text+text, ext); got != "n"+want+want {
				t.Errorf("Quote(%q, %v): %q, want %q", "n"+text+text, ext, got, "n"+want+want)
			}
		}
	})
	for _, c := range []struct{ text, basic, extended string }{
		{"", "", ""}, {"abc", "abc", "abc"}, {"a*b", `a\*b`, `a\*b`}, {"(a|b)+?{2}", "(a|b)+?{2}", `\(a\|b\)\+\?\{2\}`}, {`\(`, `\\(`, `\\\(`}, {"[a-z]^$", `\[a-z\]\^\$`, `\[a-z\]\^\$`}, {"\n\n", `\n\n`, `\n\n`}, {`\n`, `\\n`, `\\n`}, {"/a/b", `\/a\/b`, `\/a\/b`}, {"é\xc3.", "é\xc3\\.", "é\xc3\\."}, {"\x00 \t\r", "\x00 \t\r", "\x00 \t\r"}, {strings.Repeat("a.", 1000), strings.Repeat(`a\.`, 1000), strings.Repeat(`a\.`, 1000)},
	} {
		if got := retext.Quote(c.text, basic); got != c.basic {
			t.Errorf("Quote(%.100q, basic): %q, want %q", c.text, got, c.basic)
		}
		if got := retext.Quote(c.text, extended); got != c.extended {
			t.Errorf("Quote(%.100q, extended): %q, want %q", c.text, got, c.extended)
		}
	}
}

// TestExamples: what the document shows.
func TestExamples(t *testing.T) {
	wantText(t, `^*a\{2,3\}$`, basic, "(cat ^ [2a] (rep 2 3 [61]) $)")
	wantFault(t, `a\|b`, basic, api.CodeEscape, 1)
	wantFault(t, `\(\)`, basic, api.CodeSyntax, 2)
	wantText(t, "a^$b", basic, "(cat [61] [5e] [24] [62])")
	wantText(t, "(a|b)+", extended, "(rep 1 - (group 1 (alt [61] [62])))")
	wantFault(t, "a|", extended, api.CodeSyntax, 2)
	wantFault(t, "()", extended, api.CodeSyntax, 1)
	wantText(t, "a**", extended, "(rep 0 - (rep 0 - [61]))")
	wantFault(t, "^*", extended, api.CodeSyntax, 1)
	wantFault(t, "a{2,1}", extended, api.CodeRange, 1)
	wantFault(t, "a)", extended, api.CodeGroup, 1)
	wantFault(t, "(a", extended, api.CodeGroup, 2)
}

// TestNil: a nil expression tells zero values, and so does one that was not made by Parse.
func TestNil(t *testing.T) {
	for _, r := range []*retext.Re{nil, {}} {
		if !reflect.DeepEqual(r.Tree(), api.Re{}) || r.Text() != "" || r.Groups() != 0 || r.Ext() {
			t.Errorf("%v %q %d %v", r.Tree(), r.Text(), r.Groups(), r.Ext())
		}
	}
}

// TestKept: the bytes stay as they are and are not kept, and what lies behind their length is not read.
func TestKept(t *testing.T) {
	b := []byte("(a|[b-d])*x{2}")
	want := "(cat (rep 0 - (group 1 (alt [61] [62-64]))) (rep 2 2 [78]))"
	r, err := retext.Parse(b, extended)
	if err != nil || r.Text() != want || string(b) != "(a|[b-d])*x{2}" {
		t.Errorf("%q: %s, %v", b, r.Text(), err)
	}
	copy(b, "zzzzzzzzzzzzzz")
	if r.Text() != want || textOf(t, r.Tree()) != want {
		t.Error("the bytes changed, and the expression with them:", r.Text())
	}
	for text, length := range map[string]int{"ab": 1, "a*": 1, `a\.`: 2, "[ab]": 3, "a{2}": 3, "(a)": 2, "a|b": 2, "a{2}*": 4, "[[:digit:]]": 10, `\(a\)`: 4} {
		for _, ext := range []bool{basic, extended} {
			r, err := retext.Parse([]byte(text)[:length], ext)
			alone, aloneErr := retext.Parse([]byte(text[:length]), ext)
			if r.Text() != alone.Text() || fault.Tell(err) != fault.Tell(aloneErr) {
				t.Errorf("what lies behind the length of %q is read: %s %v", text, r.Text(), err)
			}
		}
	}
	long := []byte(strings.Repeat("a", 300))
	if r, err := retext.Parse(long[:256], basic); r == nil || err != nil {
		t.Error("256 of 300 bytes:", err)
	}
}

// TestMany: calls at one time are as one behind the other.
func TestMany(t *testing.T) {
	b := []byte("(a|b{2})+c")
	shared := parse(t, string(b), extended)
	want := "(cat (rep 1 - (group 1 (alt [61] (rep 2 2 [62])))) [63])"
	var all sync.WaitGroup
	for range 8 {
		all.Go(func() {
			for range 200 {
				r, err := retext.Parse(b, extended)
				if err != nil || r.Text() != want || shared.Text() != want || !reflect.DeepEqual(shared.Tree(), r.Tree()) || shared.Groups() != 1 || retext.Quote("a*", basic) != `a\*` {
					t.Error(r.Text(), err)
				}
			}
		})
	}
	all.Wait()
}
