package span_test

import (
	"math/rand"
	"slices"
	"strconv"
	"strings"
	"testing"

	"pidgin/api"
	"pidgin/fault"
	"pidgin/nfa"
	"pidgin/retext"
	"pidgin/span"
)

// The two grammars, as retext.Parse is told of them.
const (
	basic    = false
	extended = true
)

// tried is an expression in its forms.
type tried struct {
	text string
	r    *retext.Re
	tree api.Re
}

// try reads an expression that may be.
func try(t *testing.T, text string, ext bool) tried {
	t.Helper()
	r, err := retext.Parse([]byte(text), ext)
	if r == nil || err != nil {
		t.Fatalf("Parse(%.300q), extended %v: %s", text, ext, fault.Text(fault.Tell(err)))
	}
	return tried{text: text, r: r, tree: r.Tree()}
}

// wantFind: the spans of what is found from a place on; none, if there is nothing.
func wantFind(t *testing.T, one tried, s string, from int, want []api.Span) {
	t.Helper()
	got, ok, err := span.Find(one.r, []byte(s), from)
	if !slices.Equal(got, want) || ok != (want != nil) || err != nil {
		t.Fatalf("Find(%.300q, %.300q, %d): %v, %v, %v, want %v", one.text, s, from, got, ok, err, want)
	}
}

// wantParse: the spans of the match from i to j; none, if there is no match.
func wantParse(t *testing.T, one tried, s string, i, j int, want []api.Span) {
	t.Helper()
	got, ok := span.Parse(one.r, []byte(s), i, j)
	if !slices.Equal(got, want) || ok != (want != nil) {
		t.Fatalf("Parse(%.300q, %.300q, %d, %d): %v, %v, want %v", one.text, s, i, j, got, ok, want)
	}
}

// wantRow: rows of an expression, a subject, and the spans that Find tells, which Parse must tell, too.
func wantRow(t *testing.T, row [3]string, ext bool) {
	t.Helper()
	one, want := try(t, row[0], ext), spansOf(row[2])
	wantFind(t, one, row[1], 0, want)
	if want != nil {
		wantParse(t, one, row[1], want[0].Start, want[0].End, want)
	}
}

// wantRefused: no spans beside the error.
func wantRefused(t *testing.T, r *retext.Re, s string, from int, want api.Fault) {
	t.Helper()
	if got, ok, err := span.Find(r, []byte(s), from); got != nil || ok || fault.Tell(err) != want {
		t.Errorf("Find(%.300q, %d): %v, %v, %s, want %s", s, from, got, ok, fault.Text(fault.Tell(err)), fault.Text(want))
	}
}

// spansOf reads spans: "0 1, 3 3, -": a - is none. Of no text there are no spans at all.
func spansOf(text string) []api.Span {
	if text == "" {
		return nil
	}
	var spans []api.Span
	for part := range strings.SplitSeq(text, ",") {
		one := missing
		if ends := strings.Fields(part); len(ends) == 2 {
			one = api.Span{Start: number(ends[0]), End: number(ends[1])}
		}
		spans = append(spans, one)
	}
	return spans
}

// number reads a number.
func number(digits string) int {
	n, err := strconv.Atoi(digits)
	if err != nil {
		panic(err)
	}
	return n
}

// inBasic writes an extended text of what both grammars have in the basic one.
func inBasic(text string) string {
	return strings.NewReplacer("(", `\(`, ")", `\)`, "{", `\{`, "}", `\}`).Replace(text)
}

// rows hands on each row of up to most tokens.
func rows(tokens []string, most int, hand func(text string)) {
	hand("")
	if most == 0 {
		return
	}
	for _, token := range tokens {
		rows(tokens, most-1, func(text string) { hand(token + text) })
	}
}

// subjectsOf tells all subjects of those bytes, up to most of them long.
func subjectsOf(bytes string, most int) []string {
	var all []string
	rows(strings.Split(bytes, ""), most, func(text string) { all = append(all, text) })
	return all
}

// accepted tells the rows of up to most tokens that are expressions of a grammar.
func accepted(tokens []string, most int, ext bool) []string {
	var all []string
	rows(tokens, most, func(text string) {
		if _, err := retext.Parse([]byte(text), ext); err == nil {
			all = append(all, text)
		}
	})
	return all
}

// maker makes texts of expressions at random, in the extended grammar.
type maker struct {
	*rand.Rand
	plain  bool // without ^ and $
	groups int
}

// one tells one of those texts.
func (m *maker) one(texts ...string) string {
	return texts[m.Intn(len(texts))]
}

// text makes a text that may stand in a group, or as the whole.
func (m *maker) text(depth int) string {
	text := m.row(depth)
	for m.Intn(3) == 0 {
		text += "|" + m.row(depth)
	}
	return text
}

// row makes items, one behind the other.
func (m *maker) row(depth int) string {
	text := ""
	for range 1 + m.Intn(3) {
		if !m.plain && m.Intn(6) == 0 {
			text += m.one("^", "$")
			continue
		}
		text += m.piece(depth)
	}
	return text
}

// piece makes an atom, repeated or not.
func (m *maker) piece(depth int) string {
	text := m.one("a", "b", "a", "b", ".", "c")
	if depth > 0 && m.groups < api.MaxGroups && m.Intn(2) == 0 {
		m.groups++
		text = "(" + m.text(depth-1) + ")"
	}
	for m.Intn(5) < 2 {
		text += m.one("*", "+", "?", "{0}", "{2}", "{0,1}", "{1,2}", "{2,4}", "{1,}", "{2,}")
	}
	return text
}

// made tells expressions made at random that are not too long and not too heavy.
func made(t *testing.T, seeds int, plain bool) []tried {
	t.Helper()
	var all []tried
	for seed := range seeds {
		m := &maker{Rand: rand.New(rand.NewSource(int64(seed))), plain: plain}
		text := m.text(3)
		r, err := retext.Parse([]byte(text), extended)
		if err == nil && nfa.Weight(r) <= 400 {
			all = append(all, try(t, text, extended))
		}
	}
	if 2*len(all) < seeds {
		t.Fatalf("of %d expressions only %d may be", seeds, len(all))
	}
	return all
}
