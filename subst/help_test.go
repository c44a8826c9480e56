package subst_test

import (
	"math/rand"
	"slices"
	"strconv"
	"strings"
	"testing"

	"pidgin/api"
	"pidgin/fault"
	"pidgin/nfa"
	"pidgin/retext"
	"pidgin/subst"
)

// The two grammars, as retext.Parse is told of them.
const (
	basic    = false
	extended = true
)

// missing is the span that is none.
var missing = api.Span{Start: -1, End: -1}

// try reads an expression that may be.
func try(t *testing.T, text string, ext bool) *retext.Re {
	t.Helper()
	r, err := retext.Parse([]byte(text), ext)
	if r == nil || err != nil {
		t.Fatalf("retext.Parse(%.300q), extended %v: %s", text, ext, faultText(err))
	}
	return r
}

// parse reads a template that may be.
func parse(t *testing.T, text string, groups int) *subst.Template {
	t.Helper()
	made, err := subst.Parse([]byte(text), groups)
	if made == nil || err != nil {
		t.Fatalf("Parse(%.300q, %d): %s", text, groups, faultText(err))
	}
	return made
}

// sed tells a fault of the language.
func sed(code, pos int) api.Fault {
	return api.Fault{Code: code, Pos: pos, Lang: api.LangSed}
}

// wantRefused: no template beside the error.
func wantRefused(t *testing.T, text string, groups int, want api.Fault) {
	t.Helper()
	if made, err := subst.Parse([]byte(text), groups); made != nil || fault.Tell(err) != want {
		t.Errorf("Parse(%.300q, %d): %v, %s, want %s", text, groups, made, faultText(err), fault.Text(want))
	}
}

// wantText: the template's pieces.
func wantText(t *testing.T, text string, groups int, want string) {
	t.Helper()
	if got := parse(t, text, groups).Text(); got != want {
		t.Errorf("Parse(%.300q, %d): %.300s, want %.300s", text, groups, got, want)
	}
}

// wantApplied: what a template makes of a match of s.
func wantApplied(t *testing.T, text, s string, spans []api.Span, want string) {
	t.Helper()
	if got := parse(t, text, api.MaxGroups).Apply([]byte(s), spans); string(got) != want {
		t.Errorf("%.300q of %.300q, %v: %.300q, want %.300q", text, s, spans, got, want)
	}
}

// wantMatches: the spans of all matches.
func wantMatches(t *testing.T, r *retext.Re, s string, want [][]api.Span) {
	t.Helper()
	got, err := subst.Matches(r, []byte(s))
	if !slices.EqualFunc(got, want, slices.Equal) || err != nil {
		t.Fatalf("Matches(%.300s, %.300q): %v, %v, want %v", r.Text(), s, got, err, want)
	}
}

// wantReplaced: what becomes of s, and how many were replaced.
func wantReplaced(t *testing.T, r *retext.Re, made *subst.Template, s string, nth int, all bool, want string, count int) {
	t.Helper()
	got, replaced, err := subst.Replace(r, made, []byte(s), nth, all)
	if string(got) != want || replaced != count || err != nil {
		t.Fatalf("Replace(%.300s, %.300s, %.300q, %d, %v): %.300q, %d, %v, want %.300q, %d", r.Text(), made.Text(), s, nth, all, got, replaced, err, want, count)
	}
}

// wantNot: nothing is told beside the error.
func wantNot(t *testing.T, r *retext.Re, made *subst.Template, s string, nth int, all bool, want api.Fault) {
	t.Helper()
	if got, replaced, err := subst.Replace(r, made, []byte(s), nth, all); got != nil || replaced != 0 || fault.Tell(err) != want {
		t.Errorf("Replace(%.300s, %.300s, %.300q, %d, %v): %.300q, %d, %s, want %s", r.Text(), made.Text(), s, nth, all, got, replaced, faultText(err), fault.Text(want))
	}
}

// faultText writes a fault, for what a test tells.
func faultText(err error) string {
	return fault.Text(fault.Tell(err))
}

// matchesOf reads the spans of matches: "0 1, -; 3 3, 3 3": a - is none. Of no text there are no matches.
func matchesOf(text string) [][]api.Span {
	if text == "" {
		return nil
	}
	var all [][]api.Span
	for part := range strings.SplitSeq(text, ";") {
		all = append(all, spansOf(part))
	}
	return all
}

// spansOf reads the spans of one match.
func spansOf(text string) []api.Span {
	var spans []api.Span
	for part := range strings.SplitSeq(text, ",") {
		one := missing
		if ends := strings.Fields(part); len(ends) == 2 {
			one = api.Span{Start: number(ends[0]), End: number(ends[1])}
		}
		spans = append(spans, one)
	}
	return spans
}

// number reads a number.
func number(digits string) int {
	n, err := strconv.Atoi(digits)
	if err != nil {
		panic(err)
	}
	return n
}

// rows hands on each row of up to most tokens.
func rows(tokens []string, most int, hand func(text string)) {
	hand("")
	if most == 0 {
		return
	}
	for _, token := range tokens {
		rows(tokens, most-1, func(text string) { hand(token + text) })
	}
}

// subjectsOf tells all subjects of those bytes, up to most of them long.
func subjectsOf(bytes string, most int) []string {
	var all []string
	rows(strings.Split(bytes, ""), most, func(text string) { all = append(all, text) })
	return all
}

// accepted tells the rows of up to most tokens that are expressions of a grammar.
func accepted(tokens []string, most int, ext bool) []*retext.Re {
	var all []*retext.Re
	rows(tokens, most, func(text string) {
		if r, err := retext.Parse([]byte(text), ext); err == nil {
			all = append(all, r)
		}
	})
	return all
}

// maker makes texts of expressions at random, in the extended grammar.
type maker struct {
	*rand.Rand
	plain  bool // without ^
	groups int
}

// one tells one of those texts.
func (m *maker) one(texts ...string) string {
	return texts[m.Intn(len(texts))]
}

// text makes a text that may stand in a group, or as the whole.
func (m *maker) text(depth int) string {
	text := m.row(depth)
	for m.Intn(3) == 0 {
		text += "|" + m.row(depth)
	}
	return text
}

// row makes items, one behind the other.
func (m *maker) row(depth int) string {
	text := ""
	for range 1 + m.Intn(3) {
		switch m.Intn(8) {
		case 0:
			text += "$"
		case 1:
			if !m.plain {
				text += "^"
				continue
			}
			fallthrough
		default:
			text += m.piece(depth)
		}
	}
	return text
}

// piece makes an atom, repeated or not.
func (m *maker) piece(depth int) string {
	text := m.one("a", "b", "a", "b", ".", "c")
	if depth > 0 && m.groups < api.MaxGroups && m.Intn(2) == 0 {
		m.groups++
		text = "(" + m.text(depth-1) + ")"
	}
	for m.Intn(5) < 2 {
		text += m.one("*", "+", "?", "{0}", "{2}", "{0,1}", "{1,2}", "{2,4}", "{1,}", "{2,}")
	}
	return text
}

// made tells expressions made at random that are not too long and not too heavy.
func made(t *testing.T, seeds int, plain bool) []*retext.Re {
	t.Helper()
	var all []*retext.Re
	for seed := range seeds {
		m := &maker{Rand: rand.New(rand.NewSource(int64(seed))), plain: plain}
		r, err := retext.Parse([]byte(m.text(3)), extended)
		if err == nil && nfa.Weight(r) <= 300 {
			all = append(all, r)
		}
	}
	if 2*len(all) < seeds {
		t.Fatalf("of %d expressions only %d may be", seeds, len(all))
	}
	return all
}
