package nfa_test

import (
	"math/rand"
	"strings"
	"testing"

	"pidgin/api"
	"pidgin/fault"
	"pidgin/nfa"
	"pidgin/retext"
)

// The two grammars, as retext.Parse is told of them.
const (
	basic    = false
	extended = true
)

// parse reads an expression that may be.
func parse(t *testing.T, text string, ext bool) *retext.Re {
	t.Helper()
	r, err := retext.Parse([]byte(text), ext)
	if r == nil || err != nil {
		t.Fatalf("%.300q, extended %v: %s", text, ext, fault.Text(fault.Tell(err)))
	}
	return r
}

// build makes the automaton of an expression that is not too heavy, and sees that it has no more states than it may.
func build(t *testing.T, text string, ext bool) *nfa.Nfa {
	t.Helper()
	r := parse(t, text, ext)
	n, err := nfa.Build(r)
	if n == nil || err != nil {
		t.Fatalf("Build(%.300q), extended %v: %v, %s", text, ext, n, fault.Text(fault.Tell(err)))
	}
	if states, most := n.States(), nfa.Weight(r); states < 1 || states > most {
		t.Fatalf("%.300q: %d states, want 1 to %d", text, states, most)
	}
	return n
}

// wantWeight: the expression's weight.
func wantWeight(t *testing.T, text string, ext bool, want int) {
	t.Helper()
	if got := nfa.Weight(parse(t, text, ext)); got != want {
		t.Errorf("Weight(%.300q), extended %v: %d, want %d", text, ext, got, want)
	}
}

// wantRefused: the expression is too heavy, and no automaton is told beside that.
func wantRefused(t *testing.T, text string, ext bool) {
	t.Helper()
	want := api.Fault{Code: api.CodeStates, Lang: api.LangBre}
	if ext {
		want.Lang = api.LangEre
	}
	r := parse(t, text, ext)
	if n, err := nfa.Build(r); n != nil || fault.Tell(err) != want {
		t.Errorf("Build(%.300q): %v, %s, want %s", text, n, fault.Text(fault.Tell(err)), fault.Text(want))
	}
	if got := nfa.Weight(r); got != 4001 {
		t.Errorf("Weight(%.300q), extended %v: %d, want 4001", text, ext, got)
	}
}

// wantAccepts: does the expression match the whole subject?
func wantAccepts(t *testing.T, text string, ext bool, s string, want bool) {
	t.Helper()
	if got := build(t, text, ext).Accepts([]byte(s)); got != want {
		t.Errorf("%.300q, extended %v: %.300q is accepted: %v", text, ext, s, got)
	}
}

// wantJust: of those subjects the expression accepts just those that are wanted.
func wantJust(t *testing.T, text string, ext bool, subjects []string, want func(s string) bool) {
	t.Helper()
	n := build(t, text, ext)
	for _, s := range subjects {
		if got := n.Accepts([]byte(s)); got != want(s) {
			t.Fatalf("%.300q, extended %v: %.300q is accepted: %v", text, ext, s, got)
		}
	}
}

// inBasic writes an extended text of what both grammars have in the basic one.
func inBasic(text string) string {
	return strings.NewReplacer("(", `\(`, ")", `\)`, "{", `\{`, "}", `\}`).Replace(text)
}

// rows hands on each row of up to most tokens.
func rows(tokens []string, most int, hand func(text string)) {
	hand("")
	if most == 0 {
		return
	}
	for _, token := range tokens {
		rows(tokens, most-1, func(text string) { hand(token + text) })
	}
}

// subjectsOf tells all subjects of those bytes, up to most of them long.
func subjectsOf(bytes string, most int) []string {
	var all []string
	rows(strings.Split(bytes, ""), most, func(text string) { all = append(all, text) })
	return all
}

// accepted tells the rows of up to most tokens that are extended expressions.
func accepted(tokens []string, most int) []string {
	var all []string
	rows(tokens, most, func(text string) {
		if _, err := retext.Parse([]byte(text), extended); err == nil {
			all = append(all, text)
		}
	})
	return all
}

// maker makes texts of expressions at random.
type maker struct {
	*rand.Rand
	both   bool // of what both grammars have, alone
	groups int
}

// one tells one of those texts.
func (m *maker) one(texts ...string) string {
	return texts[m.Intn(len(texts))]
}

// text makes a text that may stand in a group, or as the whole.
func (m *maker) text(depth int) string {
	if m.both {
		return m.one("", "", "", "^") + m.row(depth) + m.one("", "", "", "$")
	}
	text := m.row(depth)
	for m.Intn(3) == 0 {
		text += "|" + m.row(depth)
	}
	return text
}

// row makes items, one behind the other.
func (m *maker) row(depth int) string {
	text := ""
	for range 1 + m.Intn(3) {
		if !m.both && m.Intn(6) == 0 {
			text += m.one("^", "$")
			continue
		}
		text += m.piece(depth)
	}
	return text
}

// piece makes an atom, repeated or not.
func (m *maker) piece(depth int) string {
	text := m.one("a", "b", "a", "b", ".", "[ab]", "[^a]", "c")
	if depth > 0 && m.groups < api.MaxGroups && m.Intn(2) == 0 {
		m.groups++
		text = "(" + m.text(depth-1) + ")"
	}
	for m.Intn(5) < 2 {
		text += m.one("*", "{0}", "{1}", "{2}", "{3}", "{0,1}", "{1,2}", "{2,4}", "{0,3}", "{1,}", "{2,}", "{3,}", "{0,}")
		if !m.both && m.Intn(2) == 0 {
			text += m.one("+", "?")
		}
	}
	return text
}
