package dfa_test

import (
	"math/rand"
	"strings"
	"testing"

	"pidgin/api"
	"pidgin/dfa"
	"pidgin/fault"
	"pidgin/nfa"
	"pidgin/retext"
)

// The two grammars, as retext.Parse is told of them.
const (
	basic    = false
	extended = true
)

// tried is an expression in all its forms.
type tried struct {
	text string
	tree api.Re
	n    *nfa.Nfa
	all  []*dfa.Dfa // a matcher of each of the capacities
}

// try builds an expression that may be and is not too heavy.
func try(t *testing.T, text string, ext bool) tried {
	t.Helper()
	r, err := retext.Parse([]byte(text), ext)
	if r == nil || err != nil {
		t.Fatalf("Parse(%.300q), extended %v: %s", text, ext, fault.Text(fault.Tell(err)))
	}
	n, err := nfa.Build(r)
	if n == nil || err != nil {
		t.Fatalf("Build(%.300q), extended %v: %s", text, ext, fault.Text(fault.Tell(err)))
	}
	one := tried{text: text, tree: r.Tree(), n: n}
	for _, capacity := range capacities {
		one.all = append(one.all, dfa.New(n, capacity))
	}
	return one
}

// capacities are those of the matchers that are held against each other: the least, ones that are soon full, the greatest.
var capacities = []int{0, 3, 7, api.MaxCache}

// wantAny: is there a match; every matcher must say so, whatever it was asked before.
func wantAny(t *testing.T, one tried, s string, from int, ok bool) {
	t.Helper()
	for _, d := range one.all {
		ask(t, "Any", one, d, s, from, func() {
			if got := d.Any([]byte(s), from); got != ok {
				t.Fatalf("Any(%.300q, %.300q, %d), capacity %d: %v", one.text, s, from, d.Capacity(), got)
			}
		})
	}
}

// wantLongest: where the longest match ends; below 0, where there is none.
func wantLongest(t *testing.T, one tried, s string, at, end int) {
	t.Helper()
	for _, d := range one.all {
		ask(t, "Longest", one, d, s, at, func() {
			if got, ok := d.Longest([]byte(s), at); ok != (end >= 0) || got != max(end, 0) {
				t.Fatalf("Longest(%.300q, %.300q, %d), capacity %d: %d, %v, want %d", one.text, s, at, d.Capacity(), got, ok, end)
			}
		})
	}
}

// ask makes a call twice: it must keep to its counts, and build nothing the second time, if nothing was thrown out.
func ask(t *testing.T, name string, one tried, d *dfa.Dfa, s string, at int, call func()) {
	t.Helper()
	built, evicted, most := d.Built(), d.Evicted(), 0
	if 0 <= at && at <= len(s) {
		most = len(s) - at
	}
	call()
	first := d.Built()
	if first < built || first > built+most {
		t.Fatalf("%s(%.300q, %.300q, %d), capacity %d: %d transitions built, may be %d", name, one.text, s, at, d.Capacity(), first-built, most)
	}
	wantCounts(t, one, d)
	call()
	if d.Evicted() == evicted && d.Built() != first {
		t.Fatalf("%s(%.300q, %.300q, %d), capacity %d: %d transitions built the second time", name, one.text, s, at, d.Capacity(), d.Built()-first)
	}
	wantCounts(t, one, d)
}

// wantCounts: no more states are kept, nor ever were, than there is room for; none is thrown out as long as there is room.
func wantCounts(t *testing.T, one tried, d *dfa.Dfa) {
	t.Helper()
	held, most, evicted := d.Held(), d.Most(), d.Evicted()
	if held < 0 || held > most || most > d.Capacity() || evicted < 0 || evicted > 0 && most < d.Capacity() {
		t.Fatalf("%.300q, capacity %d: %d held, %d at most, %d thrown out", one.text, d.Capacity(), held, most, evicted)
	}
}

// numbersOf reads numbers; a - is none.
func numbersOf(text string) []int {
	var all []int
	for _, word := range strings.Fields(text) {
		n := 0
		for _, digit := range word {
			n = 10*n + int(digit-'0')
		}
		if word == "-" {
			n = -1
		}
		all = append(all, n)
	}
	return all
}

// inBasic writes an extended text of what both grammars have in the basic one.
func inBasic(text string) string {
	return strings.NewReplacer("(", `\(`, ")", `\)`, "{", `\{`, "}", `\}`).Replace(text)
}

// rows hands on each row of up to most tokens.
func rows(tokens []string, most int, hand func(text string)) {
	hand("")
	if most == 0 {
		return
	}
	for _, token := range tokens {
		rows(tokens, most-1, func(text string) { hand(token + text) })
	}
}

// subjectsOf tells all subjects of those bytes, up to most of them long.
func subjectsOf(bytes string, most int) []string {
	var all []string
	rows(strings.Split(bytes, ""), most, func(text string) { all = append(all, text) })
	return all
}

// accepted tells the rows of up to most tokens that are expressions of a grammar.
func accepted(tokens []string, most int, ext bool) []string {
	var all []string
	rows(tokens, most, func(text string) {
		if _, err := retext.Parse([]byte(text), ext); err == nil {
			all = append(all, text)
		}
	})
	return all
}

// maker makes texts of expressions at random, in the extended grammar.
type maker struct {
	*rand.Rand
	groups int
}

// one tells one of those texts.
func (m *maker) one(texts ...string) string {
	return texts[m.Intn(len(texts))]
}

// text makes a text that may stand in a group, or as the whole.
func (m *maker) text(depth int) string {
	text := m.row(depth)
	for m.Intn(3) == 0 {
		text += "|" + m.row(depth)
	}
	return text
}

// row makes items, one behind the other.
func (m *maker) row(depth int) string {
	text := ""
	for range 1 + m.Intn(3) {
		if m.Intn(6) == 0 {
			text += m.one("^", "$")
			continue
		}
		text += m.piece(depth)
	}
	return text
}

// piece makes an atom, repeated or not.
func (m *maker) piece(depth int) string {
	text := m.one("a", "b", "a", "b", ".", "c")
	if depth > 0 && m.groups < api.MaxGroups && m.Intn(2) == 0 {
		m.groups++
		text = "(" + m.text(depth-1) + ")"
	}
	for m.Intn(5) < 2 {
		text += m.one("*", "+", "?", "{0}", "{2}", "{0,1}", "{1,2}", "{2,4}", "{1,}", "{2,}")
	}
	return text
}

// made tells expressions made at random that are not too long and not too heavy.
func made(t *testing.T, seeds int) []tried {
	t.Helper()
	var all []tried
	for seed := range seeds {
		m := &maker{Rand: rand.New(rand.NewSource(int64(seed)))}
		text := m.text(3)
		r, err := retext.Parse([]byte(text), extended)
		if err == nil && nfa.Weight(r) <= 400 {
			all = append(all, try(t, text, extended))
		}
	}
	if 2*len(all) < seeds {
		t.Fatalf("of %d expressions only %d may be", seeds, len(all))
	}
	return all
}
