package gmatch_test

import (
	"slices"
	"strings"
	"testing"

	"pidgin/glob"
	"pidgin/gmatch"
)

// parse reads a pattern that is not too long.
func parse(t *testing.T, text string) *glob.Pattern {
	t.Helper()
	p, err := glob.Parse([]byte(text))
	if p == nil || err != nil {
		t.Fatalf("%.300q: %v, %v", text, p, err)
	}
	return p
}

// none stands for no place where a match ends or begins.
const none = -1

// ends tells what Prefix answers, and begins what Suffix answers; none, if that is 0 and false.
func ends(t *testing.T, p *glob.Pattern, s string, longest bool) int {
	t.Helper()
	return told(t, "Prefix", p, gmatch.Prefix, s, longest)
}

func begins(t *testing.T, p *glob.Pattern, s string, longest bool) int {
	t.Helper()
	return told(t, "Suffix", p, gmatch.Suffix, s, longest)
}

// told tells the place that a call answers. Beside false there may be no place but 0.
func told(t *testing.T, what string, p *glob.Pattern, call func(*glob.Pattern, []byte, bool) (int, bool), s string, longest bool) int {
	t.Helper()
	place, ok := call(p, []byte(s), longest)
	if !ok && place != 0 {
		t.Fatalf("%s(%s, %.300q, %v): %d and false", what, p.Text(), s, longest, place)
	}
	if !ok {
		return none
	}
	return place
}

// wantMatch: does the pattern match the whole subject?
func wantMatch(t *testing.T, pattern, s string, want bool) {
	t.Helper()
	if got := gmatch.Match(parse(t, pattern), []byte(s)); got != want {
		t.Errorf("Match(%.300q, %.300q): %v", pattern, s, got)
	}
}

// wantPrefix: where the shortest and the longest match from the beginning end.
func wantPrefix(t *testing.T, pattern, s string, shortest, longest int) {
	t.Helper()
	p := parse(t, pattern)
	if got := ends(t, p, s, false); got != shortest {
		t.Errorf("Prefix(%.300q, %.300q), shortest: %d, want %d", pattern, s, got, shortest)
	}
	if got := ends(t, p, s, true); got != longest {
		t.Errorf("Prefix(%.300q, %.300q), longest: %d, want %d", pattern, s, got, longest)
	}
}

// wantSuffix: where the shortest and the longest match up to the end begin.
func wantSuffix(t *testing.T, pattern, s string, shortest, longest int) {
	t.Helper()
	p := parse(t, pattern)
	if got := begins(t, p, s, false); got != shortest {
		t.Errorf("Suffix(%.300q, %.300q), shortest: %d, want %d", pattern, s, got, shortest)
	}
	if got := begins(t, p, s, true); got != longest {
		t.Errorf("Suffix(%.300q, %.300q), longest: %d, want %d", pattern, s, got, longest)
	}
}

// wantSteps: no more comparisons than the document allows, ends the test otherwise: what goes back and tries anew would not come to an end with what follows.
func wantSteps(t *testing.T, p *glob.Pattern, s string) {
	t.Helper()
	pieces := len(p.Pieces())
	steps, most := gmatch.Steps(p, []byte(s)), (len(s)+1)*(pieces+1)
	if steps < 0 || steps > most {
		t.Fatalf("Steps(%.300q, %d bytes %.300q): %d, want at most %d", p.Text(), len(s), s, steps, most)
	}
	if again := gmatch.Steps(p, []byte(s)); again != steps {
		t.Fatalf("Steps(%.300q, %.300q): %d, then %d", p.Text(), s, steps, again)
	}
}

// wantSelect: those names and no others.
func wantSelect(t *testing.T, pattern string, names, want []string) {
	t.Helper()
	if got := gmatch.Select(parse(t, pattern), names); !slices.Equal(got, want) {
		t.Errorf("Select(%q, %q): %q, want %q", pattern, names, got, want)
	}
}

// piece is a part of a pattern, with what it means.
type piece struct {
	text    string
	many    bool
	takes   func(b byte) bool
	decides bool // takes some bytes and not others
}

// anyBytes and anyByte are * and ?.
func anyBytes() piece {
	return piece{text: "*", many: true}
}

func anyByte() piece {
	return piece{text: "?", takes: func(byte) bool { return true }}
}

// oneOf is a piece that takes those bytes alone; otherThan one that takes all others.
func oneOf(text, bytes string) piece {
	return piece{text: text, takes: func(b byte) bool { return strings.IndexByte(bytes, b) >= 0 }, decides: bytes != ""}
}

func otherThan(text, bytes string) piece {
	return piece{text: text, takes: func(b byte) bool { return strings.IndexByte(bytes, b) < 0 }, decides: bytes != ""}
}

// textOf puts the texts of pieces one behind the other.
func textOf(pieces []piece) string {
	text := ""
	for _, one := range pieces {
		text += one.text
	}
	return text
}

// rows hands on each row of up to most of the items.
func rows[T any](items []T, most int, hand func(row []T)) {
	var from func(row []T)
	from = func(row []T) {
		hand(row)
		if len(row) == most {
			return
		}
		for _, item := range items {
			from(append(row[:len(row):len(row)], item))
		}
	}
	from(nil)
}

// subjectsOf tells all subjects of those bytes, up to most of them long.
func subjectsOf(bytes string, most int) []string {
	var all []string
	rows([]byte(bytes), most, func(row []byte) { all = append(all, string(row)) })
	return all
}

// repeats tells a text so many times.
func repeats(text string, times int) string {
	return strings.Repeat(text, times)
}
