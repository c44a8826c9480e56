package sim_test

import (
	"math/rand"
	"slices"
	"strings"
	"testing"

	"pidgin/api"
	"pidgin/fault"
	"pidgin/nfa"
	"pidgin/retext"
	"pidgin/sim"
)

// The two grammars, as retext.Parse is told of them.
const (
	basic    = false
	extended = true
)

// tried is an expression in all its forms.
type tried struct {
	text string
	tree api.Re
	n    *nfa.Nfa
}

// try builds an expression that may be and is not too heavy.
func try(t *testing.T, text string, ext bool) tried {
	t.Helper()
	r, err := retext.Parse([]byte(text), ext)
	if r == nil || err != nil {
		t.Fatalf("Parse(%.300q), extended %v: %s", text, ext, fault.Text(fault.Tell(err)))
	}
	n, err := nfa.Build(r)
	if n == nil || err != nil {
		t.Fatalf("Build(%.300q), extended %v: %s", text, ext, fault.Text(fault.Tell(err)))
	}
	return tried{text: text, tree: r.Tree(), n: n}
}

// parted tells whether the text of an expression without brackets and escapes has one of those signs.
func parted(text, signs string) bool {
	return strings.ContainsAny(text, signs)
}

// wantHit: a hit with that span, and no more visits than times a pass over the subject may make.
func wantHit(t *testing.T, call string, one tried, s string, at int, got api.Hit, span api.Span, ok bool, times int) {
	t.Helper()
	if got.Ok != ok || got.Span != span {
		t.Fatalf("%s(%.300q, %.300q, %d): %v, want %v, %v", call, one.text, s, at, got, ok, span)
	}
	if most := times * (len(s) + 1) * one.n.States(); got.Visits < 0 || got.Visits > most {
		t.Fatalf("%s(%.300q, %.300q, %d): %d visits, may be %d", call, one.text, s, at, got.Visits, most)
	}
	if within := 0 <= at && at <= len(s); within != (got.Visits > 0) {
		t.Fatalf("%s(%.300q, %.300q, %d): %d visits", call, one.text, s, at, got.Visits)
	}
}

// wantLongest, wantAny, wantSearch: what the call of that name tells. An end below 0: there is no match.
func wantLongest(t *testing.T, one tried, s string, at, end int) {
	t.Helper()
	span := api.Span{Start: at, End: end}
	if end < 0 {
		span = api.Span{}
	}
	wantHit(t, "Longest", one, s, at, sim.Longest(one.n, []byte(s), at), span, end >= 0, 1)
}

func wantAny(t *testing.T, one tried, s string, from int, ok bool) {
	t.Helper()
	wantHit(t, "Any", one, s, from, sim.Any(one.n, []byte(s), from), api.Span{}, ok, 1)
}

func wantSearch(t *testing.T, one tried, s string, from, start, end int) {
	t.Helper()
	span := api.Span{Start: start, End: end}
	if end < 0 {
		span = api.Span{}
	}
	wantHit(t, "Search", one, s, from, sim.Search(one.n, []byte(s), from), span, end >= 0, 3)
	wantAny(t, one, s, from, end >= 0)
}

// wantAll: the spans of all matches.
func wantAll(t *testing.T, one tried, s string, want ...api.Span) {
	t.Helper()
	if got := sim.All(one.n, []byte(s)); !slices.Equal(got, want) {
		t.Fatalf("All(%.300q, %.300q): %v, want %v", one.text, s, got, want)
	}
}

// spansOf reads spans: "0 1, 3 3".
func spansOf(text string) []api.Span {
	var spans []api.Span
	for _, part := range strings.Split(text, ",") {
		if ends := numbersOf(part); len(ends) == 2 {
			spans = append(spans, api.Span{Start: ends[0], End: ends[1]})
		}
	}
	return spans
}

// numbersOf reads numbers.
func numbersOf(text string) []int {
	var all []int
	for _, word := range strings.Fields(text) {
		n := 0
		for _, digit := range word {
			n = 10*n + int(digit-'0')
		}
		all = append(all, n)
	}
	return all
}

// inBasic writes an extended text of what both grammars have in the basic one.
func inBasic(text string) string {
	return strings.NewReplacer("(", `\(`, ")", `\)`, "{", `\{`, "}", `\}`).Replace(text)
}

// rows hands on each row of up to most tokens.
func rows(tokens []string, most int, hand func(text string)) {
	hand("")
	if most == 0 {
		return
	}
	for _, token := range tokens {
		rows(tokens, most-1, func(text string) { hand(token + text) })
	}
}

// subjectsOf tells all subjects of those bytes, up to most of them long.
func subjectsOf(bytes string, most int) []string {
	var all []string
	rows(strings.Split(bytes, ""), most, func(text string) { all = append(all, text) })
	return all
}

// accepted tells the rows of up to most tokens that are expressions of a grammar.
func accepted(tokens []string, most int, ext bool) []string {
	var all []string
	rows(tokens, most, func(text string) {
		if _, err := retext.Parse([]byte(text), ext); err == nil {
			all = append(all, text)
		}
	})
	return all
}

// maker makes texts of expressions at random, in the extended grammar.
type maker struct {
	*rand.Rand
	plain  bool // without ^ and $
	groups int
}

// one tells one of those texts.
func (m *maker) one(texts ...string) string {
	return texts[m.Intn(len(texts))]
}

// text makes a text that may stand in a group, or as the whole.
func (m *maker) text(depth int) string {
	text := m.row(depth)
	for m.Intn(3) == 0 {
		text += "|" + m.row(depth)
	}
	return text
}

// row makes items, one behind the other.
func (m *maker) row(depth int) string {
	text := ""
	for range 1 + m.Intn(3) {
		if !m.plain && m.Intn(6) == 0 {
			text += m.one("^", "$")
			continue
		}
		text += m.piece(depth)
	}
	return text
}

// piece makes an atom, repeated or not.
func (m *maker) piece(depth int) string {
	text := m.one("a", "b", "a", "b", ".", "c")
	if depth > 0 && m.groups < api.MaxGroups && m.Intn(2) == 0 {
		m.groups++
		text = "(" + m.text(depth-1) + ")"
	}
	for m.Intn(5) < 2 {
		text += m.one("*", "+", "?", "{0}", "{2}", "{0,1}", "{1,2}", "{2,4}", "{1,}", "{2,}")
	}
	return text
}

// made tells expressions made at random that are not too long and not too heavy.
func made(t *testing.T, seeds int, plain bool) []tried {
	t.Helper()
	var all []tried
	for seed := range seeds {
		m := &maker{Rand: rand.New(rand.NewSource(int64(seed))), plain: plain}
		text := m.text(3)
		r, err := retext.Parse([]byte(text), extended)
		if err == nil && nfa.Weight(r) <= 400 {
			all = append(all, try(t, text, extended))
		}
	}
	if 2*len(all) < seeds {
		t.Fatalf("of %d expressions only %d may be", seeds, len(all))
	}
	return all
}
