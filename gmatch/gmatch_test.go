package gmatch_test

import (
	"bytes"
	"slices"
	"strconv"
	"strings"
	"sync"
	"testing"

	"pidgin/glob"
	"pidgin/gmatch"
)

// TestP7_1Empty: the empty pattern matches the empty subject, and the empty pieces of others.
func TestP7_1Empty(t *testing.T) {
	wantMatch(t, "", "", true)
	wantPrefix(t, "", "", 0, 0)
	wantSuffix(t, "", "", 0, 0)
	for _, s := range []string{"a", "ab", "*", "\x00", "\xff", ".", repeats("a", 200)} {
		wantMatch(t, "", s, false)
		wantPrefix(t, "", s, 0, 0)
		wantSuffix(t, "", s, len(s), len(s))
	}
	for _, pattern := range []string{"*", "**", repeats("*", 256)} {
		wantMatch(t, pattern, "", true)
		wantPrefix(t, pattern, "", 0, 0)
		wantSuffix(t, pattern, "", 0, 0)
	}
	for _, pattern := range []string{"a", "?", "[ab]", "[!a]", "[^\x00-\xff]", "[\x00-\xff]", `\*`, `\`, "[", "a*", "*a", "*?", "?*", "*a*", "a*b", "\x00", "\xff"} {
		wantMatch(t, pattern, "", false)
		wantPrefix(t, pattern, "", none, none)
		wantSuffix(t, pattern, "", none, none)
	}
	p := parse(t, "")
	if !gmatch.Match(p, nil) || !gmatch.Match(p, []byte{}) || gmatch.Steps(p, nil) > 1 {
		t.Error("nil is the empty subject")
	}
}

// TestP7_1Match: each kind of piece alone, and mixed.
func TestP7_1Match(t *testing.T) {
	for _, c := range []struct{ pattern, yes, no string }{
		{"a", "a", "b|aa|A|ab|ba||\xe1"},
		{"abc", "abc", "ab|abcd|xabc|abd|bbc|cba|"},
		{"?", "a|b|*|?|.|/|\n| |\x00|\xff|\x80", "|aa|é"},
		{"??", "ab|é|\x00\xff|..|//", "|a|abc"},
		{"*", "|a|ab|.|.a|/|a/b|\n|a\nb|\x00|\xff\x00\xff|*", ""},
		{"[ab]", "a|b", "|c|ab|A|-|["},
		{"[!a]", "b|!|^|.|/|\n|\x00|\xff", "|a|bb|é"},
		{"[^a-c]", "d|^|\x00|\xff", "a|b|c|"},
		{"[\x00-\xff]", "a|.|\n|\x00|\xff|*", "|aa"},
		{"[^\x00-\xff]", "", "|a|aa|\x00|\xff|["},
		{"[[:digit:]x]", "0|9|x", "|a|:|[|00"},
		{`\*`, "*", `a|\*|\||**`},
		{`\?\[\\`, `?[\`, `a[\|?[|?[\\`},
		{`a\`, `a\`, `a|a\\|ab|\`},
		{"[a", "[a", "a|[|a[|[aa"},
		{"a*", "a|ab|aa|a.b|a\x00|a*", "|b|ba|.a"},
		{"*a", "a|ba|aa|.a|aba", "|b|ab|a."},
		{"*a*", "a|ba|ab|bab|aaa|.a.", "|b|bb|A"},
		{"a*b", "ab|aXb|aab|abb|a/b|abab|a\nb", "|a|b|ba|abc|cab|aba"},
		{"a*b*c", "abc|aabbcc|axbxc|abcbc|acbc", "|ab|acb|abcd|xabc|ac|abbc."},
		{"a?b", "aab|abb|a*b|a.b", "|ab|aabb|axxb"},
		{"*?", "a|ab|.|abc", ""},
		{"?*?", "ab|abc|\x00\xff|aa", "|a"},
		{"*??*", "ab|abc|é", "|a"},
		{"***", "|a|abc", ""},
		{"a**b", "ab|aab|axxb", "a|b|aba|"},
		{"**a**", "a|bab", "|b"},
		{"*[ab]", "a|xb|ab|ba", "|c|ac|bx"},
		{"[!a]*[!a]", "bb|bab|cxyzc", "|b|ab|ba|aba"},
		{"*[^\x00-\xff]", "", "|a|ab"},
		{"[^\x00-\xff]*", "", "|a|ab"},
		{"*[\x00-\xff]*", "a|abc|\x00", "|"},
		{"\x00*\xff", "\x00\xff|\x00a\xff|\x00\x00\xff\xff", "\x00|\xff|\xff\x00||a"},
		{"*.c", ".c|a.c|a.b.c", "|c|a.|.cc|a.cx"},
		{".*", ".|..|.a", "|a|a.|a.b"},
		{"*aab", "aab|aaab|aaaaab|aabaab", "|ab|aaba|baabb|aaaa"},
		{"*ab*ba*", "abba|xabxbax|ababa", "|aba|bab|abab|ab|bbaa"},
		{"a*a", "aa|aaa|aba", "|a|ab|ba"},
	} {
		for s := range strings.SplitSeq(c.yes, "|") {
			if c.yes != "" {
				wantMatch(t, c.pattern, s, true)
			}
		}
		for s := range strings.SplitSeq(c.no, "|") {
			if c.no != "" {
				wantMatch(t, c.pattern, s, false)
			}
		}
	}
}

// TestP7_1EachByte: a byte and its set take just that byte, the set turned around all others, ? and * each.
func TestP7_1EachByte(t *testing.T) {
	one, many := parse(t, "?"), parse(t, "*")
	for b := range 256 {
		quoted := `\` + string([]byte{byte(b)})
		alone, in, out := parse(t, quoted), parse(t, "["+quoted+"]"), parse(t, "[!"+quoted+"]")
		for c := range 256 {
			s, same := []byte{byte(c)}, b == c
			if gmatch.Match(alone, s) != same || gmatch.Match(in, s) != same || gmatch.Match(out, s) == same {
				t.Fatalf("%q against %q", quoted, s)
			}
			if !gmatch.Match(one, s) || !gmatch.Match(many, s) {
				t.Fatalf("? and * against %q", s)
			}
		}
		s, other := string([]byte{byte(b)}), string([]byte{byte(b + 1)})
		wantPrefix(t, `*`+quoted, other+s+other+s+other, 2, 4)
		wantSuffix(t, quoted+`*`, other+s+other+s+other, 3, 1)
	}
}

// TestP7_1Prefix: where the shortest and the longest match from the beginning end.
func TestP7_1Prefix(t *testing.T) {
	for _, c := range []struct {
		pattern, s        string
		shortest, longest int
	}{
		{"a", "a", 1, 1}, {"a", "ab", 1, 1}, {"a", "ba", none, none}, {"ab", "abab", 2, 2}, {"ab", "a", none, none}, {"abc", "abd", none, none},
		{"?", "abc", 1, 1}, {"??", "abc", 2, 2}, {"???", "abc", 3, 3}, {"????", "abc", none, none},
		{"*", "abc", 0, 3}, {"**", "abc", 0, 3}, {"a*", "abab", 1, 4}, {"a*", "bab", none, none}, {"*a", "abab", 1, 3}, {"*b", "abab", 2, 4}, {"*b", "aaa", none, none},
		{"*b*", "abab", 2, 4}, {"a*b", "aXbXb.", 3, 5}, {"a*b", "ba", none, none}, {"a*a", "aaaa", 2, 4}, {"a*a", "a", none, none}, {"*a*b", "bbaab", 5, 5}, {"*a*b", "abba", 2, 3},
		{"[ab]", "abc", 1, 1}, {"[!a]*", "abc", none, none}, {"[!a]*", "bca", 1, 3}, {"*[!a]", "aab", 3, 3}, {"*[ab]", "abcb.", 1, 4}, {"[^\x00-\xff]", "abc", none, none}, {"*[^\x00-\xff]", "abc", none, none}, {"[\x00-\xff]*", "abc", 1, 3},
		{"?*", "abc", 1, 3}, {"*?", "abc", 1, 3}, {"*?*?", "abc", 2, 3}, {"*?a", "aaba", 2, 4},
		{`\*`, "*a", 1, 1}, {`\*`, "a", none, none}, {"*\xff", "\x00\xff\xff\x00", 2, 3}, {"*\x00", "\x00\xff\xff\x00", 1, 4}, {"*/", "a/b/c", 2, 4}, {"*.", ".a.b", 1, 3}, {"?", ".a", 1, 1}, {"*", ".a", 0, 2}, {"*\n", "a\nb\n", 2, 4},
		{"*ab", "aababb", 3, 5}, {"*aab*", "aaaabb", 5, 6}, {"a*ab", "aabab", 3, 5}, {"aa*aa", "aaa", none, none}, {"aa*aa", "aaaaa", 4, 5},
	} {
		wantPrefix(t, c.pattern, c.s, c.shortest, c.longest)
	}
}

// TestP7_1Suffix: where the shortest and the longest match up to the end begin.
func TestP7_1Suffix(t *testing.T) {
	for _, c := range []struct {
		pattern, s        string
		shortest, longest int
	}{
		{"a", "a", 0, 0}, {"a", "ba", 1, 1}, {"a", "ab", none, none}, {"ab", "abab", 2, 2}, {"ab", "b", none, none}, {"ab", "ba", none, none}, {"abc", "xbc", none, none},
		{"?", "abc", 2, 2}, {"??", "abc", 1, 1}, {"???", "abc", 0, 0}, {"????", "abc", none, none},
		{"*", "abc", 3, 0}, {"**", "abc", 3, 0}, {"*b", "abab", 3, 0}, {"*a", "bab", none, none}, {"a*", "abab", 2, 0}, {"b*", "abab", 3, 1}, {"b*", "aaa", none, none},
		{"*b*", "abab", 3, 0}, {"a*b", ".aXaXb", 3, 1}, {"a*b", "ba", none, none}, {"a*a", "aaaa", 2, 0}, {"a*a", "a", none, none}, {"a*b*", "babab", 3, 1}, {"a*b*", "bba", none, none},
		{"[ab]", "cab", 2, 2}, {"*[!a]", "bca", none, none}, {"*[!a]", "abc", 2, 0}, {"[!a]*", "baa", 0, 0}, {"[ab]*", ".bcba", 4, 1}, {"[^\x00-\xff]", "abc", none, none}, {"[^\x00-\xff]*", "abc", none, none}, {"*[\x00-\xff]", "abc", 2, 0},
		{"*?", "abc", 2, 0}, {"?*", "abc", 2, 0}, {"?*?*", "abc", 1, 0}, {"a?*", "abaa", 2, 0},
		{`\*`, "a*", 1, 1}, {`\*`, "a", none, none}, {"\xff*", "\x00\xff\xff\x00", 2, 1}, {"\x00*", "\x00\xff\xff\x00", 3, 0}, {"/*", "a/b/c", 3, 1}, {".*", "a.b.c", 3, 1}, {"*", ".a", 2, 0}, {"\n*", "\na\nb", 2, 0},
		{"ab*", "aabab", 3, 1}, {"*aab*", "aabaab", 3, 0}, {"ab*b", "babab", 1, 1}, {"ab*b", "bbab", none, none}, {"ab*b", "babab.", none, none}, {"ab*b", "bababb", 3, 1}, {"aa*aa", "aaa", none, none}, {"aa*aa", "aaaaa", 1, 0},
	} {
		wantSuffix(t, c.pattern, c.s, c.shortest, c.longest)
	}
}

// TestP7_1Lengths: subjects of many lengths, with one byte that stands out at each of their places.
func TestP7_1Lengths(t *testing.T) {
	for _, n := range []int{0, 1, 2, 7, 8, 9, 31, 32, 33, 62, 63, 64, 65, 66, 126, 127, 128, 129, 130, 191, 192, 193, 200} {
		s := repeats("a", n)
		wantPrefix(t, "*", s, 0, n)
		wantSuffix(t, "*", s, n, 0)
		wantMatch(t, "*b*", s, false)
		wantPrefix(t, "*b", s, none, none)
		wantSuffix(t, "b*", s, none, none)
		for _, pattern := range []string{repeats("?", n), s, "*" + s, repeats("?", n) + "*"} {
			wantMatch(t, pattern, s, true)
			wantMatch(t, pattern+"?", s, false)
			wantMatch(t, "b"+pattern, s, false)
		}
		for at := range n {
			s := s[:at] + "b" + s[at+1:]
			wantMatch(t, s, s, true)
			wantMatch(t, s, repeats("a", n), false)
			wantPrefix(t, "*b", s, at+1, at+1)
			wantSuffix(t, "b*", s, at, at)
			wantPrefix(t, "*b*", s, at+1, n)
			wantSuffix(t, "*b*", s, at, 0)
			wantMatch(t, "*b"+repeats("a", n-1-at), s, true)
			wantMatch(t, repeats("?", at)+"b*", s, true)
			wantMatch(t, repeats("?", at)+"a*", s, false)
		}
	}
	long := repeats("a", 1<<20)
	wantPrefix(t, "*b", long+"b"+long+"b"+long, 1<<20+1, 2<<20+2)
	wantSuffix(t, "b*", long+"b"+long+"b"+long, 2<<20+1, 1<<20)
	wantMatch(t, "a*[!a]*?", long+"bb", true)
}

// TestP7_1ManyBeginnings: where many beginnings fit a row of *, the answer comes, and is right.
func TestP7_1ManyBeginnings(t *testing.T) {
	for _, stars := range []int{1, 2, 5, 10, 40, 85} {
		row := repeats("*a", stars)
		for _, n := range []int{stars - 1, stars, stars + 1, stars * 3, stars * 10} {
			s := repeats("a", n)
			for _, pattern := range []string{row + "*", row + "*b", row + "*b*", "*[!a]" + row} {
				wantSteps(t, parse(t, pattern), s)
			}
			first, last := stars, n
			if n < stars {
				first, last = none, none
			}
			wantMatch(t, row+"*", s, n >= stars)
			wantMatch(t, row+"*b", s, false)
			wantMatch(t, row+"*b", s+"b", n >= stars)
			wantPrefix(t, row, s, first, last)
			wantPrefix(t, row+"*b*", s, none, none)
			wantSuffix(t, "*b"+row, s, none, none)
			if n < stars {
				wantSuffix(t, row, s, none, none)
			} else {
				wantSuffix(t, row, s, n-stars, 0)
				wantSuffix(t, "b"+row, "b"+s, 0, 0)
			}
		}
	}
}

// TestP7_2Many: patterns and subjects made to need many comparisons; small ones first.
func TestP7_2Many(t *testing.T) {
	for _, times := range []int{1, 2, 3, 5, 8, 12, 20, 40, 50} {
		for _, pattern := range []string{
			repeats("*a", times) + "b", repeats("a*", times) + "b", repeats("*a", times) + "*", repeats("*?", times) + "b", repeats("?*", times) + "c", repeats("*", times*4) + "b", repeats("?", times*4), repeats("a", times*4), "*" + repeats("a", times*4) + "b", "*" + repeats("a", times) + "*" + repeats("a", times) + "b", repeats("*[ab]", min(times, 40)) + "c", repeats("*aab", times) + "*c", repeats("[!c]*", min(times, 40)) + "c", repeats("*ab*", times) + "c", "b" + repeats("*a", times),
		} {
			p := parse(t, pattern)
			for _, s := range []string{repeats("a", times*2), repeats("a", times*6), repeats("ab", times*3), repeats("aab", times*2) + "a", repeats("a", times*5) + "b", "b" + repeats("a", times*5), repeats("b", times*4), repeats("\x00\xff", times)} {
				wantSteps(t, p, s)
			}
		}
	}
	wantSteps(t, parse(t, repeats("*a", 127)+"b"), repeats("a", 4096))
	wantSteps(t, parse(t, repeats("?", 256)), repeats("a", 256))
	wantSteps(t, parse(t, repeats("*", 256)), repeats("a", 4096))
}

// TestP7_2Compared: no pattern is found to match but by comparing its bytes with those of the subject.
func TestP7_2Compared(t *testing.T) {
	for n := range 257 {
		s := repeats("a", n)
		if steps := gmatch.Steps(parse(t, s), []byte(s)); steps < n {
			t.Errorf("%d bytes match, with %d comparisons", n, steps)
		}
		if steps := gmatch.Steps(parse(t, "*"+s[n/2:]), []byte(s)); steps < n-n/2 {
			t.Errorf("the last %d of %d bytes match, with %d comparisons", n-n/2, n, steps)
		}
	}
}

// TestP7_3Dot: names that begin with a dot are for patterns whose first piece is just the dot.
func TestP7_3Dot(t *testing.T) {
	names := []string{"a", ".", "..", ".a", ".ab", "a.b", "b.", "..a"}
	for pattern, want := range map[string][]string{
		"*": {"a", "a.b", "b."}, "**": {"a", "a.b", "b."}, "?*": {"a", "a.b", "b."}, "*?": {"a", "a.b", "b."}, "?": {"a"}, "??": {"b."}, "???": {"a.b"}, "?a": nil, "*a": {"a"}, "*.*": {"a.b", "b."}, "*.": {"b."}, "?.": {"b."}, "*.a": nil, "**.a": nil, "?.a": nil,
		".*": {".", "..", "..a", ".a", ".ab"}, ".": {"."}, "..": {".."}, ".?": {"..", ".a"}, ".a": {".a"}, ".[ab]*": {".a", ".ab"}, ".*b": {".ab"}, "..*": {"..", "..a"}, ".[!.]*": {".a", ".ab"}, ".*a": {"..a", ".a"},
		`\.*`: {".", "..", "..a", ".a", ".ab"}, `\.a`: {".a"}, `\.\a`: {".a"}, "[.]*": {".", "..", "..a", ".a", ".ab"}, "[.]a": {".a"}, "[..]a": {".a"}, "[.-.]a": {".a"}, `[\.]a`: {".a"}, "[^\x00--/-\xff]a": {".a"},
		"[.a]*": {"a", "a.b"}, "[.a]": {"a"}, "[.-/]*": nil, "[--.]a": nil, "[!b]*": {"a", "a.b"}, "[^\x00]?": {"b."}, "[\x00-\xff]a": nil, "[!a-z]*": nil, "[[:punct:]]*": nil, "[^\x00-\xff]*": nil, "[^\x00-\xff]": nil,
		"": nil, "a": {"a"}, "a*": {"a", "a.b"}, "a?b": {"a.b"}, "a[.]b": {"a.b"}, "a[!.]b": nil, "*[.]*": {"a.b", "b."}, "[ab]*": {"a", "a.b", "b."}, "b[.]": {"b."}, `*\.`: {"b."}, "[.": nil,
	} {
		wantSelect(t, pattern, names, want)
	}
	for name, patterns := range map[string][]string{"[.": {"[.", `\[.`, "*", "[[]?"}, ".[": {".[", `.\[`, ".*", ".?"}, `.\`: {`.\`, `.\\`, `[.]*`}, ".*": {`.\*`, ".*"}} {
		for _, pattern := range patterns {
			wantSelect(t, pattern, []string{name}, []string{name})
		}
	}
	for _, pattern := range []string{"*", "?*", "*\x00", "[^a]*", "[.,]\x00"} {
		wantSelect(t, pattern, []string{".\x00", ".\xff\x00"}, nil)
	}
}

// TestP7_3Order: names rising byte by byte, each once, whatever their order was.
func TestP7_3Order(t *testing.T) {
	want := []string{"", "\x00", "\x00\x00", "\n", " ", "-", "0", "10", "9", "A", "B", "Z", "a", "a\x00", "a ", "a-b", "a/b", "aa", "ab", "b", "é", "\x80", "\xff", "\xff\xff"}
	slices.SortFunc(want, func(a, b string) int { return bytes.Compare([]byte(a), []byte(b)) })
	falling := slices.Clone(want)
	slices.Reverse(falling)
	mixed := slices.Concat(want[9:], want[:9])
	for _, names := range [][]string{want, falling, mixed, slices.Concat(want, want), slices.Concat(want, falling, mixed), slices.Concat(falling, falling, []string{".", ".a"}, want)} {
		wantSelect(t, "*", names, want)
	}
	wantSelect(t, "*", []string{"b", "a", "b", "a", "b"}, []string{"a", "b"})
	wantSelect(t, "a", []string{"a", "b", "a", "b", "a"}, []string{"a"})
	wantSelect(t, "[ab]", []string{"b", "b", "c", "a", "a", "c", "b"}, []string{"a", "b"})
	wantSelect(t, ".*", []string{".b", ".a", "a", ".b", "."}, []string{".", ".a", ".b"})
	wantSelect(t, "?", []string{"b", "ab", "", "a"}, []string{"a", "b"})
	var names, numbers []string
	for i := range 1000 {
		names = append(names, strconv.Itoa(i*7%1000))
		numbers = append(numbers, strconv.Itoa(i))
	}
	slices.Sort(numbers)
	wantSelect(t, "*", names, numbers)
}

// TestP7_3Empty: no names, the empty name, and no pieces.
func TestP7_3Empty(t *testing.T) {
	for _, pattern := range []string{"", "*", "?", "a", ".*", "."} {
		wantSelect(t, pattern, nil, nil)
		wantSelect(t, pattern, []string{}, nil)
	}
	wantSelect(t, "", []string{"a", "", ".", ""}, []string{""})
	wantSelect(t, "*", []string{"a", "", ".", ""}, []string{"", "a"})
	wantSelect(t, "**", []string{""}, []string{""})
	wantSelect(t, "?", []string{"", "a"}, []string{"a"})
	wantSelect(t, ".", []string{"", "."}, []string{"."})
	wantSelect(t, ".*", []string{""}, nil)
	wantSelect(t, "a", []string{"", "b"}, nil)
}

// TestExamples: what the document shows.
func TestExamples(t *testing.T) {
	wantMatch(t, "a*b", "aXb", true)
	wantMatch(t, "a*b", "ab", true)
	wantMatch(t, "[!a]", "a", false)
	wantPrefix(t, "a*", "abab", 1, 4)
	wantSelect(t, "*", []string{".a", "b", "c"}, []string{"b", "c"})
	wantSelect(t, ".*", []string{".a", "b"}, []string{".a"})
}

// TestNil: a nil pattern matches nothing, not even what the empty pattern matches.
func TestNil(t *testing.T) {
	for _, s := range []string{"", "a", "abc", ".", repeats("a", 200)} {
		if gmatch.Match(nil, []byte(s)) || gmatch.Steps(nil, []byte(s)) != 0 {
			t.Errorf("nil: %q is matched, with %d steps", s, gmatch.Steps(nil, []byte(s)))
		}
		for _, longest := range []bool{false, true} {
			if ends(t, nil, s, longest) != none || begins(t, nil, s, longest) != none {
				t.Errorf("nil: a piece of %q is matched", s)
			}
		}
		if got := gmatch.Select(nil, []string{s, "b", ""}); len(got) != 0 {
			t.Errorf("nil: %q are selected", got)
		}
	}
	if gmatch.Match(nil, nil) || gmatch.Steps(nil, nil) != 0 || len(gmatch.Select(nil, nil)) != 0 {
		t.Error("nil: nothing is matched")
	}
}

// TestKept: what is handed in stays as it is; what lies behind its length is not read.
func TestKept(t *testing.T) {
	for _, pattern := range []string{"", "*", "a*b", "*[ab]?*", "ab", "abab", "?*b", "[!a]*"} {
		p := parse(t, pattern)
		text := p.Text()
		whole := []byte("abaabbabab")
		for n := range len(whole) + 1 {
			s := whole[:n]
			alone := string(s)
			if gmatch.Match(p, s) != gmatch.Match(p, []byte(alone)) || gmatch.Steps(p, s) != gmatch.Steps(p, []byte(alone)) {
				t.Errorf("%s: the bytes behind %q are read", pattern, alone)
			}
			for _, longest := range []bool{false, true} {
				end, ok := gmatch.Prefix(p, s, longest)
				if want := ends(t, p, alone, longest); ok && end != want || !ok && want != none {
					t.Errorf("%s: Prefix reads the bytes behind %q", pattern, alone)
				}
				begin, ok := gmatch.Suffix(p, s, longest)
				if want := begins(t, p, alone, longest); ok && begin != want || !ok && want != none {
					t.Errorf("%s: Suffix reads the bytes behind %q", pattern, alone)
				}
			}
		}
		if string(whole) != "abaabbabab" || p.Text() != text {
			t.Errorf("%s: %s and %q behind the calls", pattern, p.Text(), whole)
		}
	}
}

// TestKeptNames: names handed in, and names told, are lists of their own.
func TestKeptNames(t *testing.T) {
	for _, pattern := range []string{"*", "?", "a", "[ab]", ".*", ""} {
		p := parse(t, pattern)
		whole := []string{"b", "", ".a", "a", "b", "a", "c", "aa", "z", "b"}
		before := slices.Clone(whole)
		names := whole[:6]
		first := gmatch.Select(p, names)
		want := slices.Clone(first)
		second := gmatch.Select(p, names)
		if slices.Contains(first, "c") || slices.Contains(first, "z") {
			t.Errorf("%s: what lies behind the names is selected: %q", pattern, first)
		}
		if !slices.Equal(whole, before) {
			t.Errorf("%s: the names are %q behind the call", pattern, whole)
		}
		for i := range first {
			first[i] = "changed"
		}
		_ = append(first, "more")
		if !slices.Equal(whole, before) || !slices.Equal(second, want) || !slices.Equal(gmatch.Select(p, names), want) {
			t.Errorf("%s: %q, %q share memory with what was told", pattern, whole, second)
		}
		for i := range whole {
			whole[i] = "other"
		}
		if !slices.Equal(second, want) {
			t.Errorf("%s: the names changed, and with them what was told: %q", pattern, second)
		}
	}
}

// TestAsks: what was asked before makes no difference.
func TestAsks(t *testing.T) {
	p := parse(t, "a*b")
	for range 3 {
		for s, want := range map[string]bool{"ab": true, "a": false, "axb": true, repeats("a", 100): false, "": false, repeats("ab", 100): true} {
			if got := gmatch.Match(p, []byte(s)); got != want {
				t.Errorf("Match(a*b, %q): %v", s, got)
			}
		}
	}
}

// TestMany: calls at one time are as one behind the other.
func TestMany(t *testing.T) {
	p := parse(t, "a*[b-d]")
	s, names := []byte("aabacab"), []string{"ad", "x", "ab", ".a", "ab"}
	steps := gmatch.Steps(p, s)
	var all sync.WaitGroup
	for range 8 {
		all.Go(func() {
			for range 200 {
				checkShared(t, p, s, names, steps)
			}
		})
	}
	all.Wait()
}

// checkShared asks all calls of one pattern, subject and list of names.
func checkShared(t *testing.T, p *glob.Pattern, s []byte, names []string, steps int) {
	end, _ := gmatch.Prefix(p, s, false)
	begin, _ := gmatch.Suffix(p, s, false)
	if !gmatch.Match(p, s) || end != 3 || begin != 5 || gmatch.Steps(p, s) != steps || !slices.Equal(gmatch.Select(p, names), []string{"ab", "ad"}) {
		t.Error(end, begin, gmatch.Steps(p, s), gmatch.Select(p, names))
	}
}
