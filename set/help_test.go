package set_test

import (
	"strconv"
	"strings"
	"testing"

	"pidgin/api"
	"pidgin/fault"
	"pidgin/set"
)

// members says of each byte whether a set has it: what sets are held against.
type members [256]bool

// membersOf tells the members of a set, by package api's word on its bits.
func membersOf(s api.Set) members {
	var m members
	for b := range m {
		m[b] = s[b/64]&(1<<(b%64)) != 0
	}
	return m
}

// holding tells the members that in holds of.
func holding(in func(b int) bool) members {
	var m members
	for b := range m {
		m[b] = in(b)
	}
	return m
}

// among tells the bytes of a text as members.
func among(text string) members {
	return holding(func(b int) bool { return strings.IndexByte(text, byte(b)) >= 0 })
}

// between tells the bytes from low to high as members.
func between(low, high int) members {
	return holding(func(b int) bool { return low <= b && b <= high })
}

// turned tells all that are no members.
func (m members) turned() members {
	return holding(func(b int) bool { return !m[b] })
}

// with tells the members of both.
func (m members) with(others members) members {
	return holding(func(b int) bool { return m[b] || others[b] })
}

// bytes tells the members, rising.
func (m members) bytes() []byte {
	var all []byte
	for b, in := range m {
		if in {
			all = append(all, byte(b))
		}
	}
	return all
}

// text writes the members as the document says, by the borders of runs.
func (m members) text() string {
	out := ""
	for b := range m {
		begins, ends := b == 0 || !m[b-1], b == 255 || !m[b+1]
		digits := strconv.FormatInt(int64(0x100+b), 16)[1:]
		switch {
		case m[b] && begins:
			out += "," + digits
		case m[b] && ends:
			out += "-" + digits
		}
	}
	return "[" + strings.TrimPrefix(out, ",") + "]"
}

// pool tells members of many kinds.
func pool() []members {
	all := []members{{}, members{}.turned(), among("a"), among("\x00"), among("\xff"), among("\x00\xff"), among("\x3f\x40\x7f\x80\xbf\xc0"), between(0, 63), between(64, 127), between(128, 191), between(192, 255), between(63, 64), between(60, 200), between(1, 254)}
	for _, by := range []int{2, 3, 7, 64} {
		all = append(all, holding(func(b int) bool { return b%by == 0 }), holding(func(b int) bool { return b%by == by-1 }), holding(func(b int) bool { return b/by%2 == 1 }))
	}
	return all
}

// want holds a set against what it should have, by each call that looks at it.
func want(t *testing.T, what string, s api.Set, m members) {
	t.Helper()
	if membersOf(s) != m {
		t.Errorf("%s: the set of %q, want %q", what, membersOf(s).bytes(), m.bytes())
	}
	for b := range m {
		if set.Has(s, byte(b)) != m[b] {
			t.Errorf("%s: Has %d is not %v", what, b, m[b])
		}
	}
	if got := set.Bytes(s); string(got) != string(m.bytes()) {
		t.Errorf("%s: Bytes %q, want %q", what, got, m.bytes())
	}
	if got := set.Len(s); got != len(m.bytes()) {
		t.Errorf("%s: Len %d, want %d", what, got, len(m.bytes()))
	}
	if got := set.Text(s); got != m.text() {
		t.Errorf("%s: Text %s, want %s", what, got, m.text())
	}
}

// wantSet: the text, which begins behind a [, is a bracket of that set, and ends at its length less behind.
func wantSet(t *testing.T, text string, lang int, setText string, behind int) {
	t.Helper()
	s, end, err := set.Bracket([]byte(text), 0, lang)
	if err != nil || set.Text(s) != setText || end != len(text)-behind {
		t.Errorf("%q in %d: %s to %d, %s, want %s to %d", text, lang, set.Text(s), end, fault.Text(fault.Tell(err)), setText, len(text)-behind)
	}
}

// wantFault: reading b from at meets that error, and tells nothing beside it.
func wantFault(t *testing.T, b string, at, lang, code, pos int) {
	t.Helper()
	s, end, err := set.Bracket([]byte(b), at, lang)
	want := api.Fault{Code: code, Pos: pos, Lang: lang}
	if told := fault.Tell(err); told != want || s != (api.Set{}) || end != 0 {
		t.Errorf("%q from %d in %d: %s to %d, %s, want %s", b, at, lang, set.Text(s), end, fault.Text(told), fault.Text(want))
	}
}

// langs tells the languages that have brackets.
func langs() []int {
	return []int{api.LangGlob, api.LangBre, api.LangEre}
}
