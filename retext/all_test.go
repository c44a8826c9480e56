package retext_test

import (
	"math/rand"
	"reflect"
	"strconv"
	"strings"
	"testing"

	"pidgin/api"
	"pidgin/fault"
	"pidgin/retext"
)

// check holds all that an expression tells, in both grammars, against the second reading.
func check(t *testing.T, text string) {
	t.Helper()
	for _, ext := range []bool{basic, extended} {
		r, err := retext.Parse([]byte(text), ext)
		want, groups, refused := second(text, ext)
		if got := fault.Tell(err); got != refused || (r == nil) != (err != nil) {
			t.Fatalf("%q, extended %v: %s, want %s", text, ext, fault.Text(got), fault.Text(refused))
		}
		if r == nil {
			continue
		}
		if got := r.Text(); got != want || r.Groups() != groups || r.Ext() != ext {
			t.Fatalf("%q, extended %v: %s with %d groups, want %s with %d", text, ext, got, r.Groups(), want, groups)
		}
		if got := textOf(t, r.Tree()); got != want {
			t.Fatalf("%q, extended %v: the tree is %s, want %s", text, ext, got, want)
		}
	}
}

// TestP8_1AllBytes: all short texts of the bytes that have a meaning.
func TestP8_1AllBytes(t *testing.T) {
	t.Parallel()
	rows(strings.Split(`a.[]()*+?{}|^$\n1,`, ""), 4, func(text string) { check(t, text) })
	rows(strings.Split(`a()*{|^$\`, ""), 5, func(text string) { check(t, text) })
}

// TestP8_1AllTokens: all short rows of what stands in expressions.
func TestP8_1AllTokens(t *testing.T) {
	t.Parallel()
	rows([]string{`\(`, `\)`, "^", "$", "*", "b", `\{2\}`, `\{3,2\}`, `\{`, `\}`, "[a", "]", `\`}, 4, func(text string) { check(t, text) })
	rows([]string{"(", ")", "|", "^", "$", "+", "b", "{2}", "{3,}", "{3,2}", "{", "}", "[^a", "]", `\`}, 4, func(text string) { check(t, text) })
}

// TestP8_1AllIntervals: all short texts between braces.
func TestP8_1AllIntervals(t *testing.T) {
	t.Parallel()
	rows(strings.Split(`025,\} `, ""), 4, func(text string) {
		check(t, `a\{`+text+`\}`)
		check(t, "a{"+text+"}")
		check(t, "(a{"+text)
		check(t, `^\{`+text)
	})
}

// TestP8_1AllLong: long rows of tokens.
func TestP8_1AllLong(t *testing.T) {
	t.Parallel()
	tokens := []string{`\(`, `\)`, "(", ")", "(a", "b)", `\(a`, `b\)`, "|", "x|y", "^", "$", "*", "+", "?", "{2}", "{0,1}", `\{2\}`, `\{1,\}`, "a", ".", "[a-c]", "[^]]", `\n`, `\.`, `\\`, "c", "d"}
	r := rand.New(rand.NewSource(8))
	for range 30000 {
		text := ""
		for range 1 + r.Intn(25) {
			text += tokens[r.Intn(len(tokens))]
		}
		check(t, text)
	}
}

// maker makes expressions at random.
type maker struct {
	*rand.Rand
	ext    bool
	groups int
}

// alternatives makes what may stand in a group, or as the whole.
func (m *maker) alternatives(depth int) api.Re {
	if !m.ext || m.Intn(3) > 0 {
		return m.row(depth)
	}
	re := api.Re{Kind: api.ReAlt}
	for range 2 + m.Intn(2) {
		re.Kids = append(re.Kids, m.row(depth))
	}
	return re
}

// row makes items, one behind the other; in the basic grammar with anchors at the ends alone.
func (m *maker) row(depth int) api.Re {
	re := api.Re{Kind: api.ReCat}
	if m.Intn(5) == 0 {
		re.Kids = append(re.Kids, api.Re{Kind: api.ReBegin})
	}
	for range 1 + m.Intn(3) {
		re.Kids = append(re.Kids, m.piece(depth))
		if m.ext && m.Intn(8) == 0 {
			re.Kids = append(re.Kids, api.Re{Kind: api.ReBegin + m.Intn(2)})
		}
	}
	if m.Intn(5) == 0 {
		re.Kids = append(re.Kids, api.Re{Kind: api.ReEnd})
	}
	if len(re.Kids) == 1 {
		return re.Kids[0]
	}
	return re
}

// piece makes an atom, repeated or not.
func (m *maker) piece(depth int) api.Re {
	re := setOf(byte(m.Intn(256)))
	switch m.Intn(4) {
	case 0:
		for range m.Intn(4) {
			b := m.Intn(256)
			re.Set[b/64] |= 1 << (b % 64)
		}
	case 1:
		if depth > 0 && m.groups < api.MaxGroups {
			m.groups++
			re = api.Re{Kind: api.ReGroup, Group: m.groups}
			re.Kids = []api.Re{m.alternatives(depth - 1)}
		}
	}
	for m.Intn(3) == 0 {
		least := m.Intn(256)
		most := least + m.Intn(256-least)
		switch m.Intn(4) {
		case 0:
			least, most = 0, -1
		case 1:
			most = -1
		}
		re = api.Re{Kind: api.ReRep, Min: least, Max: most, Kids: []api.Re{re}}
	}
	return re
}

// sourceOf writes a tree in a grammar.
func sourceOf(re api.Re, ext bool) string {
	brace := `\`
	if ext {
		brace = ""
	}
	switch re.Kind {
	case api.ReSet:
		return sourceOfSet(re, ext)
	case api.ReBegin:
		return "^"
	case api.ReEnd:
		return "$"
	case api.ReGroup:
		return brace + "(" + sourceOf(re.Kids[0], ext) + brace + ")"
	case api.ReRep:
		kid := sourceOf(re.Kids[0], ext)
		switch {
		case re.Min == 0 && re.Max == -1:
			return kid + "*"
		case ext && re.Min == 1 && re.Max == -1:
			return kid + "+"
		case re.Max == -1:
			return kid + brace + "{" + strconv.Itoa(re.Min) + "," + brace + "}"
		case re.Min == re.Max:
			return kid + brace + "{" + strconv.Itoa(re.Min) + brace + "}"
		}
		return kid + brace + "{" + strconv.Itoa(re.Min) + "," + strconv.Itoa(re.Max) + brace + "}"
	}
	var parts []string
	for _, kid := range re.Kids {
		parts = append(parts, sourceOf(kid, ext))
	}
	if re.Kind == api.ReAlt {
		return strings.Join(parts, "|")
	}
	return strings.Join(parts, "")
}

// sourceOfSet writes one byte quoted, others in a bracket that they have no meaning in: ] first, - last, ^ not first, [ last but one.
func sourceOfSet(re api.Re, ext bool) string {
	var bytes []byte
	for b := range 256 {
		if has(re.Set, b) && !strings.Contains("]-^[", string(rune(b))) {
			bytes = append(bytes, byte(b))
		}
	}
	ahead, behind := "", ""
	for _, b := range []byte("]^[-") {
		if has(re.Set, int(b)) {
			if b == ']' {
				ahead = "]"
			} else {
				behind += string(b)
			}
		}
	}
	all := ahead + string(bytes) + behind
	if len(all) == 1 {
		return retext.Quote(all, ext)
	}
	if all == "^-" {
		all = "-^"
	}
	if all == "^[" || all == "^[-" {
		all = "[^" + all[2:]
	}
	return "[" + all + "]"
}

// TestP8_2Made: trees that were made and written in a grammar are read as they were made.
func TestP8_2Made(t *testing.T) {
	t.Parallel()
	made := 0
	for seed := range int64(20000) {
		m := &maker{Rand: rand.New(rand.NewSource(seed)), ext: seed%2 == 0}
		want := m.alternatives(3)
		text := sourceOf(want, m.ext)
		if len(text) > api.MaxRe {
			continue
		}
		made++
		r := parse(t, text, m.ext)
		if got := r.Tree(); !reflect.DeepEqual(got, want) || r.Groups() != m.groups {
			t.Fatalf("%q, extended %v: %s, want %s", text, m.ext, textOf(t, got), textOf(t, want))
		}
		if r.Text() != textOf(t, want) {
			t.Fatalf("%q, extended %v: %s, want %s", text, m.ext, r.Text(), textOf(t, want))
		}
	}
	if made < 15000 {
		t.Error("too few:", made)
	}
}

// checkQuote: Parse of Quote is the bytes, one behind the other (P8.4).
func checkQuote(t *testing.T, text string) {
	t.Helper()
	for _, ext := range []bool{basic, extended} {
		quoted := retext.Quote(text, ext)
		switch {
		case len(quoted) > api.MaxRe:
			wantFault(t, quoted, ext, api.CodeLong, 0)
		case text == "":
			wantFault(t, quoted, ext, api.CodeSyntax, 0)
		default:
			wantText(t, quoted, ext, hexes(text))
		}
	}
}

// TestP8_4: all short texts, and long ones, go through Quote and Parse unchanged.
func TestP8_4(t *testing.T) {
	t.Parallel()
	rows(strings.Split("a.[]()*+?{}|^$/\\n\n,1", ""), 3, func(text string) { checkQuote(t, text) })
	rows([]string{`\(`, `\)`, `\n`, "[a]", "{2}", `\{2\}`, "(a|b)", "^*", "é", "\xff", "\x00"}, 3, func(text string) { checkQuote(t, text) })
	eachByte(func(b byte, text string) {
		for _, times := range []int{1, 2, 127, 128, 129, 255, 256, 257} {
			checkQuote(t, strings.Repeat(text, times))
		}
		checkQuote(t, strings.Repeat(text+"*", 85))
		checkQuote(t, strings.Repeat(text+"*", 86))
	})
}

// TestP8_5: two extended texts that are accepted, with | between, are the one's branches and the other's.
func TestP8_5(t *testing.T) {
	t.Parallel()
	var texts []string
	rows([]string{"a", "(", ")", "|", "*", "^", "$", "{1,2}", "[|]", `\|`, "b"}, 4, func(text string) {
		if r, err := retext.Parse([]byte(text), extended); err == nil && (len(text) < 4 || r.Groups() > 0 || strings.Contains(text, "|")) {
			texts = append(texts, text)
		}
	})
	if len(texts) < 500 {
		t.Fatal("too few:", len(texts))
	}
	const step = 41 // not each with each: that takes too long
	for i, one := range texts {
		for k := i % step; k < len(texts); k += step {
			checkBoth(t, one, texts[k])
		}
	}
	long, groups := strings.Repeat("x", 127), strings.Repeat("(a)", 5)
	checkBoth(t, long, long)
	checkBoth(t, groups, groups[3:])
	wantFault(t, long+"|"+long+"xx", extended, api.CodeLong, 0)
	wantFault(t, groups+"|"+groups, extended, api.CodeMany, 28)
}

// checkBoth holds two texts with | between against each of them.
func checkBoth(t *testing.T, one, other string) {
	t.Helper()
	first, second := parse(t, one, extended), parse(t, other, extended)
	both := parse(t, one+"|"+other, extended).Tree()
	want := append(branches(first.Tree(), 0), branches(second.Tree(), first.Groups())...)
	if both.Kind != api.ReAlt || !reflect.DeepEqual(both.Kids, want) {
		t.Fatalf("%q and %q: %s, then %s, but together %s", one, other, first.Text(), second.Text(), textOf(t, both))
	}
}

// branches tells the branches of a tree, with the numbers of its groups raised.
func branches(re api.Re, by int) []api.Re {
	var raise func(re *api.Re)
	raise = func(re *api.Re) {
		if re.Kind == api.ReGroup {
			re.Group += by
		}
		for i := range re.Kids {
			raise(&re.Kids[i])
		}
	}
	raise(&re)
	if re.Kind == api.ReAlt {
		return re.Kids
	}
	return []api.Re{re}
}
