package gmatch_test

import (
	"math/rand"
	"slices"
	"strings"
	"testing"

	"pidgin/gmatch"
)

// The tests of this file hold all short patterns and subjects against a second reading of the section 'Words', which is a table of what matches from where, made from the last piece on.

// matchesTo tells of each place i whether the pieces match s from i to j.
func matchesTo(pieces []piece, s string, j int) []bool {
	rest := make([]bool, j+1)
	rest[j] = true // no pieces: if i is j
	for _, first := range slices.Backward(pieces) {
		all := make([]bool, j+1)
		for i := range all {
			if first.many {
				all[i] = slices.Contains(rest[i:], true) // the rest matches from some k to j
			} else {
				all[i] = i < j && first.takes(s[i]) && rest[i+1]
			}
		}
		rest = all
	}
	return rest
}

// secondEnds tells where the shortest and the longest match from 0 end; secondBegins where those up to the end begin.
func secondEnds(pieces []piece, s string) (shortest, longest int) {
	shortest, longest = none, none
	for j := range len(s) + 1 {
		if matchesTo(pieces, s, j)[0] {
			longest = j
			if shortest == none {
				shortest = j
			}
		}
	}
	return shortest, longest
}

func secondBegins(pieces []piece, s string) (shortest, longest int) {
	shortest, longest = none, none
	for i, ok := range slices.Backward(matchesTo(pieces, s, len(s))) {
		if ok {
			longest = i
			if shortest == none {
				shortest = i
			}
		}
	}
	return shortest, longest
}

// check holds Match, Prefix, Suffix and Steps against the second reading, and what the three say against one another (P7.4).
func check(t *testing.T, pieces []piece, subjects []string) {
	t.Helper()
	text := textOf(pieces)
	p := parse(t, text)
	for _, s := range subjects {
		firstEnd, lastEnd := secondEnds(pieces, s)
		lastBegin, firstBegin := secondBegins(pieces, s)
		if a, b := ends(t, p, s, false), ends(t, p, s, true); a != firstEnd || b != lastEnd {
			t.Fatalf("Prefix(%q, %q): %d and %d, want %d and %d", text, s, a, b, firstEnd, lastEnd)
		}
		if a, b := begins(t, p, s, false), begins(t, p, s, true); a != lastBegin || b != firstBegin {
			t.Fatalf("Suffix(%q, %q): %d and %d, want %d and %d", text, s, a, b, lastBegin, firstBegin)
		}
		matches := gmatch.Match(p, []byte(s))
		if matches != (lastEnd == len(s)) || matches != (firstBegin == 0) {
			t.Fatalf("Match(%q, %q): %v, but the longest matches end at %d, begin at %d", text, s, matches, lastEnd, firstBegin)
		}
		wantSteps(t, p, s)
		if steps := gmatch.Steps(p, []byte(s)); matches && steps < deciding(pieces) {
			t.Fatalf("Steps(%q, %q): %d, but each byte and set must have been compared", text, s, steps)
		}
	}
}

// deciding tells how many of the pieces take some bytes and not others: where they match, each was compared with one.
func deciding(pieces []piece) int {
	n := 0
	for _, one := range pieces {
		if one.decides {
			n++
		}
	}
	return n
}

// kinds tells pieces of all kinds: bytes, sets, one of no byte and one of all, ? and *.
func kinds() []piece {
	return []piece{oneOf("a", "a"), oneOf("b", "b"), anyBytes(), anyByte(), oneOf("[ac]", "ac"), otherThan("[!a]", "a"), oneOf("[^\x00-\xff]", ""), otherThan("[\x00-\xff]", "")}
}

// TestP7_1All: all short patterns and subjects.
func TestP7_1All(t *testing.T) {
	subjects := subjectsOf("abc", 4)
	rows(kinds(), 3, func(row []piece) { check(t, row, subjects) })
	subjects = subjectsOf("ab", 5)
	rows(kinds()[:5], 4, func(row []piece) { check(t, row, subjects) })
	subjects = subjectsOf("ab", 7)
	rows([]piece{anyBytes(), anyByte(), oneOf("a", "a")}, 5, func(row []piece) { check(t, row, subjects) })
}

// TestP7_1AllBytes: patterns and subjects of the least and the greatest byte, of signs, quoted or in sets.
func TestP7_1AllBytes(t *testing.T) {
	subjects := subjectsOf("\x00\xff\x80", 4)
	rows([]piece{anyBytes(), anyByte(), oneOf("\x00", "\x00"), oneOf("\xff", "\xff"), otherThan("[!\x00]", "\x00"), oneOf("[\x80-\xff]", "\x80\xff"), oneOf("[\x00\xff]", "\x00\xff")}, 3, func(row []piece) { check(t, row, subjects) })
	subjects = subjectsOf(`*?[\.`, 3)
	rows([]piece{anyBytes(), anyByte(), oneOf(`\*`, "*"), oneOf(`\?`, "?"), oneOf(`\[`, "["), oneOf(`\\`, `\`), oneOf("[*?]", "*?"), oneOf("[.]", "."), otherThan(`[!\\]`, `\`)}, 3, func(row []piece) { check(t, row, subjects) })
}

// TestP7_1Long: long rows of pieces, with subjects that nearly fit.
func TestP7_1Long(t *testing.T) {
	random := rand.New(rand.NewSource(7))
	all := append(kinds()[:6], anyBytes(), oneOf("a", "a"), otherThan("[\x00-\xff]", ""))
	for range 150 {
		row := make([]piece, 1+random.Intn(24))
		for i := range row {
			row[i] = all[random.Intn(len(all))]
		}
		var subjects []string
		for range 3 {
			subjects = append(subjects, fitting(random, row))
		}
		check(t, row, subjects)
	}
}

// fitting makes a subject that the pieces match, and sometimes changes a byte of it.
func fitting(random *rand.Rand, pieces []piece) string {
	var s []byte
	for _, one := range pieces {
		for range random.Intn(20) {
			if one.many {
				s = append(s, "abc"[random.Intn(3)])
			}
		}
		for _, b := range []byte("bcab") {
			if !one.many && one.takes(b) {
				s = append(s, b)
				break
			}
		}
	}
	if len(s) > 0 && random.Intn(3) == 0 {
		s[random.Intn(len(s))] = "abc"[random.Intn(3)]
	}
	return string(s)
}

// TestP7_3All: all short patterns of dots and what may be one, over all short names, each there twice.
func TestP7_3All(t *testing.T) {
	names := subjectsOf(".ab", 3)
	given := slices.Concat(names, names)
	slices.Reverse(given[len(names)/2:])
	rows([]piece{oneOf(".", "."), oneOf(`\.`, "."), oneOf("[.]", "."), oneOf("[.a]", ".a"), otherThan("[!b]", "b"), oneOf("a", "a"), anyBytes(), anyByte()}, 3, func(row []piece) {
		var want []string
		for _, name := range names {
			dotted := len(row) > 0 && (row[0].text == "." || row[0].text == `\.` || row[0].text == "[.]")
			if matchesTo(row, name, len(name))[0] && (dotted || !strings.HasPrefix(name, ".")) {
				want = append(want, name)
			}
		}
		slices.Sort(want)
		wantSelect(t, textOf(row), given, want)
	})
}

// plainKinds tells pieces without a [, that quote what stands behind a \.
func plainKinds() []piece {
	return []piece{oneOf("a", "a"), oneOf("b", "b"), anyBytes(), anyByte(), oneOf(`\*`, "*"), oneOf(`\\`, `\`)}
}

// TestP7_4Around: with a * ahead and behind, a pattern matches just what has a match in it.
func TestP7_4Around(t *testing.T) {
	subjects := append(subjectsOf(`ab*\`, 3), subjectsOf("ab", 5)...)
	rows(plainKinds(), 3, func(row []piece) {
		text := textOf(row)
		p, around := parse(t, text), parse(t, "*"+text+"*")
		for _, s := range subjects {
			within := false
			for i := range len(s) + 1 {
				within = within || ends(t, p, s[i:], false) != none
			}
			if got := gmatch.Match(around, []byte(s)); got != within {
				t.Fatalf("Match(*%s*, %q): %v, but a match in it: %v", text, s, got, within)
			}
		}
	})
}

// TestP7_4Whole: what is matched whole is the longest prefix and the longest suffix, and the other way around.
func TestP7_4Whole(t *testing.T) {
	for _, pattern := range []string{"", "*", "a*", "*a", "a*b", "*a*", "?*", "[!a]*[!b]", "*ab*ab", "[ab", `a\`, "*[z-a]*"} {
		p := parse(t, pattern)
		for _, s := range append(subjectsOf("ab", 7), "[ab", `a\`, "x[z-a]", "[z-a", repeats("ab", 100), repeats("a", 65), repeats("b", 128)) {
			matches := gmatch.Match(p, []byte(s))
			if matches != (ends(t, p, s, true) == len(s)) || matches != (begins(t, p, s, true) == 0) {
				t.Fatalf("Match(%q, %q): %v, Prefix %d, Suffix %d", pattern, s, matches, ends(t, p, s, true), begins(t, p, s, true))
			}
		}
	}
}

// TestP7_5: two patterns with a * between match just what can be cut in two.
func TestP7_5(t *testing.T) {
	subjects := append(subjectsOf("ab", 5), `*a\`, `\*`, "a*b", `aa\b`, repeats("ab", 40), repeats("a", 64)+"b")
	rows(plainKinds(), 2, func(first []piece) {
		p1 := parse(t, textOf(first))
		shortest := make([]int, len(subjects))
		for i, s := range subjects {
			shortest[i] = ends(t, p1, s, false)
		}
		rows(append(kinds()[:6], oneOf("[", "[")), 2, func(second []piece) {
			if len(second) == 2 && second[0].text == "[" {
				return // it would begin a bracket
			}
			p2, both := parse(t, textOf(second)), parse(t, textOf(first)+"*"+textOf(second))
			for i, s := range subjects {
				begin := begins(t, p2, s, false)
				cut := shortest[i] != none && begin != none && shortest[i] <= begin
				if got := gmatch.Match(both, []byte(s)); got != cut {
					t.Fatalf("Match(%s*%s, %q): %v; Prefix %d, Suffix %d", textOf(first), textOf(second), s, got, shortest[i], begin)
				}
			}
		})
	})
}
