package dfa_test

import (
	"math"
	"strings"
	"sync"
	"testing"

	"pidgin/dfa"
	"pidgin/nfa"
	"pidgin/sim"
)

// TestP12_1: capacities are brought to what may be.
func TestP12_1(t *testing.T) {
	n := try(t, "a*b", extended).n
	for capacity, want := range map[int]int{math.MinInt: 2, -1024: 2, -1: 2, 0: 2, 1: 2, 2: 2, 3: 3, 100: 100, 1023: 1023, 1024: 1024, 1025: 1024, 4000: 1024, math.MaxInt: 1024, 1 << 32: 1024} {
		d := dfa.New(n, capacity)
		if d.Capacity() != want {
			t.Errorf("New(%d): %d", capacity, d.Capacity())
		}
		if d.Held() != 0 || d.Most() != 0 || d.Built() != 0 || d.Evicted() != 0 {
			t.Errorf("New(%d): a new one has %d, had %d, built %d, threw out %d", capacity, d.Held(), d.Most(), d.Built(), d.Evicted())
		}
		if end, ok := d.Longest([]byte("aab"), 0); end != 3 || !ok || d.Capacity() != want {
			t.Errorf("New(%d): %d, %v; then %d", capacity, end, ok, d.Capacity())
		}
	}
}

// TestP12_2: the longest match from a place.
func TestP12_2(t *testing.T) {
	for text, want := range map[string]string{ // a subject, and where the longest match from each of its places ends; - where there is none
		"a": "aba 1 - 3 -", "a*": "baab 0 3 3 3 4", "a+": "baab - 3 3 - -", "a|ab": "aab 1 3 - -", "ab|a": "aab 1 3 - -", "a|ab|abc": "abcab 3 - - 5 - -", "(a|ab)(c|bcd)": "abcdac 4 - - - 6 - -", "a*ab": "aaab 4 4 4 - -", ".*a": "bab 2 2 - -", "[^a]*": "bbab 2 2 2 4 4", "(ab)*": "ababa 4 1 4 3 4 5",
		"a{2}": "aaa 2 3 - -", "a{2,3}": "aaaa 3 4 4 - -", "a{2,}": "aaaa 4 4 4 - -", "a{0}": "aa 0 1 2", "(ab?){2}": "abaa 3 - 4 - -", "a|abcd": "abcabcd 1 - - 7 - - - -", "[\x80-\xff]+": "a\x80\xffb - 3 3 - -", ".": "\x00\xff 1 2 -",
		"^": "ab 0 - -", "$": "ab - - 2", "^a": "aa 1 - -", "^a*": "aa 2 - -", "a$": "aa - 2 -", "a*$": "aba - - 3 3", "^$": "a - -", "$^": "a - -", "^a|b": "abab 1 2 - 4 -", "a|b$": "abab 1 - 3 4 -", "(^a|b)*": "abab 2 2 2 4 4", "(a|b$)*": "abab 1 1 4 4 4", "a^": "aa - - -", "$a": "aa - - -", "(a|^)b": "bab 1 3 - -", "a(b|$)": "aba 2 - 3 -", "a*|^$": "aba 1 1 3 3", "b$|b": "bb 1 2 -", "(a|^$|b$)*": "ab 2 2 2",
		"(a*)*": "aab 2 2 2 3", "(a*)+": "aab 2 2 2 3", "(a|b*)*c": "abcb 3 3 3 - -", "(a*)*b": "aac - - - -", "a\nb|\n": "a\nb\n 3 2 - 4 -",
	} {
		one := try(t, text, extended)
		s, places, _ := strings.Cut(want, " ")
		ends := numbersOf(places)
		if len(ends) != len(s)+1 {
			t.Errorf("%q: a place of %q lacks", text, s)
		}
		for range 2 {
			for at, end := range ends {
				wantLongest(t, one, s, at, end)
			}
		}
	}
	for text, end := range map[string]int{"": -1, "a": -1, "b": 1, "ab": 2, "aab": 3, "aabaab": 3} {
		wantLongest(t, try(t, `a*b`, basic), text, 0, end)
	}
	for text, end := range map[string]int{"": 0, "a": 0, "ab": 2, "ababa": 4} {
		wantLongest(t, try(t, `\(ab\)*`, basic), text, 0, end)
	}
}

// TestP12_2Any: is there a match at all.
func TestP12_2Any(t *testing.T) {
	for text, want := range map[string]string{ // a subject, and from how many places on, counted from 0, there is a match
		"a": "bab 2", "ab": "abab 3", "a*": "bb 3", "a+": "bb 0", "c": "abab 0", "b$": "abab 4", "^a": "aa 1", "^": "aa 1", "$": "aa 3", "^$": "a 0", "a^b": "ab 0", "a$b": "ab 0", "a{2}": "aabaab 4", "(ab){2}": "ababab 3", "a|c": "bbabb 3", "a.*b": "aabab 4", "x*$": "ab 3", "(^|c)a": "acabca 5", "[^b]": "abba 4", "$^": "a 0", "\xff": "\x00\xff 2", "^b|a": "aba 3", "a\n*b": "a\n\nba 1", "aab": "aaab 2", "abac": "ababacb 3",
	} {
		one, words := try(t, text, extended), strings.Split(want, " ")
		for from := range len(words[0]) + 1 {
			wantAny(t, one, words[0], from, from < numbersOf(words[1])[0])
		}
	}
	for _, text := range []string{"^", "$", "^$", "$^", "a*", "a{0}", "(a|b)*"} {
		wantAny(t, try(t, text, extended), "", 0, true)
		wantLongest(t, try(t, text, extended), "", 0, 0)
	}
	for _, text := range []string{"a", "a+", "^a", ".", "[^a]", "$a"} {
		wantAny(t, try(t, text, extended), "", 0, false)
		wantLongest(t, try(t, text, extended), "", 0, -1)
	}
}

// TestP12_2Turns: what was asked before makes no difference: calls at the beginning and behind it, for any match and for the longest, in turns.
func TestP12_2Turns(t *testing.T) {
	for _, text := range []string{"^a|b$", "^", "$", "(^|a)b", "^$|ab", "a*", "(^a)*b", "$^|a"} {
		one := try(t, text, extended)
		for _, s := range append(subjectsOf("ab", 3), "abab", "bbbb", "") {
			what := tableOf(one.tree, s)
			for at := range len(s) + 1 {
				back := len(s) - at
				wantAny(t, one, s, at, what.anyFrom(at))
				wantLongest(t, one, s, back, what.longestAt(back))
				wantLongest(t, one, s, at, what.longestAt(at))
				wantAny(t, one, s, back, what.anyFrom(back))
			}
		}
	}
}

// TestPlaces: from a place that is none there is no match, and nothing is built.
func TestPlaces(t *testing.T) {
	for _, text := range []string{"a", "a*", "^", "$", "^$", "a{0}", "."} {
		one := try(t, text, extended)
		for _, s := range []string{"", "a", "aaaa"} {
			for _, at := range []int{-1, -2, len(s) + 1, len(s) + 2, math.MaxInt, math.MinInt, math.MaxInt32, 1 << 32} {
				wantAny(t, one, s, at, false)
				wantLongest(t, one, s, at, -1)
			}
		}
		for _, d := range one.all {
			if d.Built() != 0 {
				t.Errorf("%q: %d transitions", text, d.Built())
			}
			if end, ok := d.Longest([]byte("aaaa")[:2], 3); ok || end != 0 || d.Any([]byte("aaaa")[:2], 3) {
				t.Errorf("%q: behind the length: %d, %v", text, end, ok)
			}
		}
	}
}

// TestP12_3: what is kept and thrown out is counted.
func TestP12_3(t *testing.T) {
	one := try(t, "(a|b)*a(a|b){12}", extended) // at least 2^12 sets of states can be reached
	subject := deBruijn(13)
	for capacity, room := range map[int]int{0: 2, 2: 2, 3: 3, 10: 10, 500: 500, 1024: 1024, 2000: 1024} {
		d := dfa.New(one.n, capacity)
		held, evicted := 0, 0
		for at := range 20 {
			if !d.Any([]byte(subject), at) {
				t.Fatal("no match behind", at)
			}
			end, ok := d.Longest([]byte(subject), at)
			if hit := sim.Longest(one.n, []byte(subject), at); hit.Ok != ok || hit.Span.End != end {
				t.Fatalf("capacity %d, at %d: %d, %v, want %v", capacity, at, end, ok, hit)
			}
			if d.Held() < held || d.Evicted() < evicted || d.Held() > room || d.Most() != d.Held() || d.Held() < room && d.Evicted() > 0 {
				t.Fatalf("capacity %d: %d held, %d at most, %d thrown out", capacity, d.Held(), d.Most(), d.Evicted())
			}
			held, evicted = d.Held(), d.Evicted()
		}
		if held != room || evicted < 4096-room {
			t.Errorf("capacity %d: in the end %d held, %d thrown out", capacity, held, evicted)
		}
	}
}

// deBruijn makes a text in which each row of so many a and b stands once.
func deBruijn(n int) string {
	text, seen := []byte(strings.Repeat("b", n)), map[string]int{strings.Repeat("b", n): 1}
	for {
		tail := string(text[len(text)-n+1:])
		switch {
		case seen[tail+"a"] == 0:
			text = append(text, 'a')
		case seen[tail+"b"] == 0:
			text = append(text, 'b')
		default:
			return string(text)
		}
		seen[string(text[len(text)-n:])] = 1
	}
}

// TestP12_3Built: how many transitions are built, where that is plain.
func TestP12_3Built(t *testing.T) {
	d := dfa.New(try(t, "a*b", extended).n, 100)
	for _, want := range []struct {
		s     string
		built int
	}{{"", 0}, {"a", 1}, {"aaaa", 1}, {"aab", 2}, {"b", 2}, {"aaaaab", 2}, {"ax", 3}, {"xaaaaa", 3}, {"y", 4}, {"aaa", 4}, {"", 4}} {
		d.Longest([]byte(want.s), 0)
		if d.Built() != want.built || d.Evicted() != 0 || d.Held() > 4 {
			t.Errorf("behind %q: %d built, %d thrown out, %d held; want %d built", want.s, d.Built(), d.Evicted(), d.Held(), want.built)
		}
	}
	before := d.Built()
	for _, s := range []string{"xxaay", "aab", "xxaayb", "yyyy"} {
		d.Any([]byte(s), 0)
	}
	if built := d.Built() - before; built < 4 || built > 6 {
		t.Errorf("%d transitions for four bytes", built)
	}
}

// TestP12_4: the same call twice builds nothing the second time, if all has room; if it hasn't, no more than the bytes that there are.
func TestP12_4(t *testing.T) {
	one := try(t, "(a|b)*a(a|b){5}c|(ab|ba)*d", extended)
	for _, capacity := range []int{2, 3, 5, 20, 60, 200, 1024} {
		d := dfa.New(one.n, capacity)
		one.all = []*dfa.Dfa{d}
		for _, s := range []string{deBruijn(6), deBruijn(5) + "c", strings.Repeat("ab", 30) + "d", "", "ccc", strings.Repeat("abcd", 9)} {
			for at := 0; at <= len(s); at += 1 + at {
				agree(t, one, s, at)
			}
		}
		if capacity == 1024 && d.Evicted() > 0 || capacity <= 60 && d.Evicted() == 0 {
			t.Errorf("capacity %d: %d thrown out", capacity, d.Evicted())
		}
	}
}

// TestP12_4Held: what stays held is not built again while others are thrown out: a byte that leads from a state to itself.
func TestP12_4Held(t *testing.T) {
	for _, capacity := range []int{2, 3, 4, 1024} {
		d := dfa.New(try(t, "a*(b|c|d)", extended).n, capacity)
		d.Longest([]byte(strings.Repeat("a", 1000)), 0)
		if d.Built() != 1 || d.Held() > 2 {
			t.Errorf("capacity %d: %d transitions, %d states for one byte", capacity, d.Built(), d.Held())
		}
		d = dfa.New(try(t, "(ab)*", extended).n, capacity)
		d.Longest([]byte(strings.Repeat("ab", 1000)), 0)
		if built := d.Built(); capacity > 2 && built > 3 || built > 2000 {
			t.Errorf("capacity %d: %d transitions for two bytes", capacity, built)
		}
	}
}

// TestP12_5: capacities as unlike as may be tell the same, of expressions heavy or long.
func TestP12_5(t *testing.T) {
	subjects := []string{"", "b", strings.Repeat("a", 300), strings.Repeat("ab", 150), strings.Repeat("a", 200) + "b" + strings.Repeat("a", 60) + "c", deBruijn(8)}
	for _, text := range []string{"(a*)*c", "(a|a)*c", "(a|aa)+c", "(a*){20}c", "(a?){0,255}(a*)*c", "((a*)*)*c", "(a?){100}a{100}", "a{31}{129}", "(a{30}{120})*c", "(a|b)*a(a|b){12}", "(a|b){200}", "^(a|ab){60}", "(b|ba){70}$", "(^|b)a*$"} {
		one := try(t, text, extended)
		for _, s := range subjects {
			agree(t, one, s, 0)
			agree(t, one, s, len(s)/2)
			agree(t, one, s, len(s))
		}
	}
}

// TestP12_5Long: a long subject takes no long time, and no more states than there is room for.
func TestP12_5Long(t *testing.T) {
	long := strings.Repeat("\x00\xff\n", 100000)
	for _, text := range []string{"^.*$", ".*x", "x*$", "\n.?$|\xff.*x", "(.\xff\n)*", "^\x00|a"} {
		one := try(t, text, extended)
		agree(t, one, long, 0)
		agree(t, one, long, 7)
	}
}

// TestExamples: what the document shows.
func TestExamples(t *testing.T) {
	n := try(t, "a*b", extended).n
	d := dfa.New(n, 0)
	end, ok := d.Longest([]byte("aab"), 0)
	if d.Capacity() != 2 || end != 3 || !ok || d.Any([]byte("xx"), 0) || d.Held() > 2 {
		t.Errorf("capacity %d: %d, %v; %d held", d.Capacity(), end, ok, d.Held())
	}
	d = dfa.New(n, 100)
	first := d.Any([]byte("aab"), 0)
	built := d.Built()
	if second := d.Any([]byte("aab"), 0); !first || !second || built > 3 || d.Built() != built {
		t.Errorf("%v, %v; %d transitions, then %d", first, second, built, d.Built())
	}
}

// TestReadme: what README.md shows.
func TestReadme(t *testing.T) {
	d := dfa.New(try(t, "a*b", extended).n, 100)
	if end, ok := d.Longest([]byte("aabx"), 0); end != 3 || !ok || d.Built() != 3 && d.Built() != 2 {
		t.Error("Longest from 0:", end, ok, d.Built())
	}
	if end, ok := d.Longest([]byte("aabx"), 3); end != 0 || ok {
		t.Error("Longest from 3:", end, ok)
	}
	if !d.Any([]byte("xxab"), 0) || d.Any([]byte("xxa"), 0) || d.Evicted() != 0 || d.Held() != d.Most() {
		t.Error("Any")
	}
}

// TestNil: a matcher of no automaton, or of one that was not built, matches nothing; one that was not made tells zero values.
func TestNil(t *testing.T) {
	for _, n := range []*nfa.Nfa{nil, new(nfa.Nfa)} {
		d := dfa.New(n, 10)
		if d.Capacity() != 10 || dfa.New(n, 0).Capacity() != 2 {
			t.Error("capacity:", d.Capacity())
		}
		wantNothing(t, d)
	}
	for _, d := range []*dfa.Dfa{nil, new(dfa.Dfa)} {
		if d.Capacity() != 0 {
			t.Error("capacity:", d.Capacity())
		}
		wantNothing(t, d)
	}
}

// wantNothing: a matcher that matches nothing, and makes nothing.
func wantNothing(t *testing.T, d *dfa.Dfa) {
	t.Helper()
	for _, s := range [][]byte{nil, {}, []byte("a"), []byte("abc")} {
		for _, at := range []int{-1, 0, 1, 2, 4, math.MaxInt, math.MinInt} {
			if end, ok := d.Longest(s, at); end != 0 || ok || d.Any(s, at) {
				t.Errorf("%q, %d: %d, %v", s, at, end, ok)
			}
		}
	}
	if d.Held() != 0 || d.Most() != 0 || d.Built() != 0 || d.Evicted() != 0 {
		t.Errorf("%d held, %d at most, %d built, %d thrown out", d.Held(), d.Most(), d.Built(), d.Evicted())
	}
}

// TestKept: the subject stays as it is and is not kept, nor is the automaton; what lies behind the subject's length is not read.
func TestKept(t *testing.T) {
	whole := []byte("abbaab")
	for _, text := range []string{"a*", "(ab)*", "a.*$", "^(a|b)*", "ab", "abb$", ".{5}", "(a$|b)*", "b*$"} {
		one := try(t, text, extended)
		for length := range len(whole) + 1 {
			what := tableOf(one.tree, string(whole[:length]))
			for _, d := range one.all {
				for at := range length + 1 {
					if end, ok := d.Longest(whole[:length], at); ok && end != what.longestAt(at) || ok != (what.longestAt(at) >= 0) {
						t.Errorf("Longest(%q, %q, %d), with more behind it: %d, %v", text, whole[:length], at, end, ok)
					}
					if got := d.Any(whole[:length], at); got != what.anyFrom(at) {
						t.Errorf("Any(%q, %q, %d), with more behind it: %v", text, whole[:length], at, got)
					}
				}
			}
		}
		for i := range whole { // what was asked of is another subject by now
			whole[i] = 'b'
		}
		check(t, one, []string{"abbaab", "bbbbbb"})
		copy(whole, "abbaab")
		*one.n = nfa.Nfa{}
		check(t, one, []string{"abbaab", "bbabbb", ""})
	}
	if string(whole) != "abbaab" {
		t.Errorf("the subject is %q now", whole)
	}
}

// TestMany: matchers of one automaton, at one time, are as one behind the other.
func TestMany(t *testing.T) {
	one := try(t, "(a|b{2})+c?", extended)
	s := []byte("cabbac-bbb-a")
	var all sync.WaitGroup
	for worker := range 8 {
		all.Go(func() {
			d := dfa.New(one.n, worker)
			for range 200 {
				end, ok := d.Longest(s, 7)
				if end != 9 || !ok || !d.Any(s, 10) || d.Any(s, 12) {
					t.Error("another answer")
				}
			}
		})
	}
	all.Wait()
	d, other := dfa.New(one.n, 5), dfa.New(one.n, 5)
	d.Longest(s, 1)
	if d.Built() == 0 || other.Built() != 0 || other.Held() != 0 {
		t.Error("what one matcher does is seen in another")
	}
}
