package set_test

import (
	"fmt"
	"strings"
	"testing"

	"pidgin/api"
	"pidgin/set"
)

// TestP5_1Of: the bytes of a text, in any order, as often as they stand there.
func TestP5_1Of(t *testing.T) {
	for _, text := range []string{"", "a", "\x00", "\xff", "?", "@", "\x7f", "\x80", "\xbf", "\xc0", "ab", "ba", "aaa", "zyxzyx", "\x00\xff", "é", "\xc3", "\xff\xfe\x00\x01", strings.Repeat("ab\x80", 5000)} {
		want(t, fmt.Sprintf("Of(%.20q)", text), set.Of(text), among(text))
	}
	for b := range 256 {
		want(t, fmt.Sprintf("Of the byte %d", b), set.Of(string([]byte{byte(b)})), between(b, b))
	}
	for i, m := range pool() {
		want(t, fmt.Sprintf("Of the bytes of pool %d", i), set.Of(string(m.bytes())), m)
	}
	want(t, "the zero value", api.Set{}, members{})
}

// TestP5_1Range: both ends counted; none where low is above high.
func TestP5_1Range(t *testing.T) {
	for low := range 256 {
		for high := range 256 {
			if s := set.Range(byte(low), byte(high)); membersOf(s) != between(low, high) {
				t.Errorf("Range(%d, %d): %q", low, high, membersOf(s).bytes())
			}
		}
	}
	for _, c := range []struct{ low, high, length int }{{0, 255, 256}, {0, 0, 1}, {255, 255, 1}, {0, 63, 64}, {64, 64, 1}, {63, 64, 2}, {1, 255, 255}, {0, 254, 255}, {255, 0, 0}, {1, 0, 0}, {255, 254, 0}, {97, 96, 0}} {
		s := set.Range(byte(c.low), byte(c.high))
		want(t, fmt.Sprintf("Range(%d, %d)", c.low, c.high), s, between(c.low, c.high))
		if set.Len(s) != c.length {
			t.Errorf("Range(%d, %d) has %d bytes, want %d", c.low, c.high, set.Len(s), c.length)
		}
	}
}

// TestP5_1Not: all others.
func TestP5_1Not(t *testing.T) {
	for i, m := range pool() {
		s := set.Of(string(m.bytes()))
		want(t, fmt.Sprintf("Not of pool %d", i), set.Not(s), m.turned())
	}
	want(t, "Not of none", set.Not(api.Set{}), between(0, 255))
	want(t, "Not of all", set.Not(set.Range(0, 255)), members{})
}

// TestP5_1Union: of none, of one, of many.
func TestP5_1Union(t *testing.T) {
	want(t, "Union of none", set.Union(), members{})
	want(t, "Union of an empty list", set.Union([]api.Set{}...), members{})
	var many []api.Set
	var all members
	for i, m := range pool() {
		s := set.Of(string(m.bytes()))
		want(t, fmt.Sprintf("Union of pool %d", i), set.Union(s), m)
		for j, n := range pool() {
			want(t, fmt.Sprintf("Union of pool %d and %d", i, j), set.Union(s, set.Of(string(n.bytes()))), m.with(n))
		}
		if i > 3 {
			many, all = append(many, s), all.with(m)
			want(t, fmt.Sprintf("Union of pool 4 to %d", i), set.Union(many...), all)
		}
	}
	var bytes []api.Set
	for b := range 256 {
		bytes = append(bytes, set.Range(byte(b), byte(b)))
	}
	want(t, "Union of each byte", set.Union(bytes...), between(0, 255))
	want(t, "Union of some bytes", set.Union(bytes[97:100]...), among("abc"))
}

// TestP5_1Looks: Has, Len and Bytes, byte by byte.
func TestP5_1Looks(t *testing.T) {
	s := set.Of("\x00@a\xff")
	if !set.Has(s, 0) || !set.Has(s, '@') || !set.Has(s, 'a') || !set.Has(s, 255) || set.Has(s, 1) || set.Has(s, 'b') || set.Has(s, 254) || set.Has(s, 128) {
		t.Error("Has")
	}
	if set.Len(s) != 4 || set.Len(api.Set{}) != 0 || set.Len(set.Range(0, 255)) != 256 || set.Len(set.Not(s)) != 252 {
		t.Error("Len")
	}
	if got := string(set.Bytes(s)); got != "\x00@a\xff" {
		t.Errorf("Bytes: %q", got)
	}
	if got := set.Bytes(api.Set{}); len(got) != 0 {
		t.Errorf("Bytes of none: %q", got)
	}
	for b, got := range set.Bytes(set.Range(0, 255)) {
		if int(got) != b {
			t.Errorf("Bytes of all: %d at %d", got, b)
		}
	}
}

// TestP5_3: the text of sets.
func TestP5_3(t *testing.T) {
	for bytes, text := range map[string]string{
		"": "[]", "a": "[61]", "\x00": "[00]", "\x0f": "[0f]", "\x10": "[10]", "\xff": "[ff]", "\xab": "[ab]", "ac": "[61,63]", "ab": "[61-62]", "abc": "[61-63]", "\x00\x01": "[00-01]", "\xfe\xff": "[fe-ff]", "\x00\xff": "[00,ff]", "\x00\x01\xfe\xff": "[00-01,fe-ff]", "?@": "[3f-40]", "\x7f\x80": "[7f-80]", "\xbf\xc0": "[bf-c0]", "a-z": "[2d,61,7a]", "0123456789abcdef": "[30-39,61-66]", "\x00\x02\x03\x05": "[00,02-03,05]", "\xf0\xf1\xf3": "[f0-f1,f3]",
	} {
		if got := set.Text(set.Of(bytes)); got != text {
			t.Errorf("of %q: %s, want %s", bytes, got, text)
		}
		others := set.Not(set.Of(bytes))
		want(t, fmt.Sprintf("all but %q", bytes), others, among(bytes).turned())
	}
	for low := range 256 {
		for high := low; high < 256; high++ {
			text := fmt.Sprintf("[%02x-%02x]", low, high)
			if low == high {
				text = fmt.Sprintf("[%02x]", low)
			}
			if got := set.Text(set.Range(byte(low), byte(high))); got != text {
				t.Errorf("%s, want %s", got, text)
			}
		}
	}
	for _, c := range []struct {
		s    api.Set
		text string
	}{{set.Range(0, 255), "[00-ff]"}, {set.Not(set.Of("b")), "[00-61,63-ff]"}, {set.Not(set.Of("\x00")), "[01-ff]"}, {set.Not(set.Of("\xff")), "[00-fe]"}, {set.Not(set.Of("\x00\xff")), "[01-fe]"}, {set.Not(set.Of("\x01\xfe")), "[00,02-fd,ff]"}, {api.Set{0xaaaaaaaaaaaaaaaa}, "[" + everySecond(1, 64) + "]"}, {api.Set{1 << 63, 1}, "[3f-40]"}, {api.Set{0, 1 << 63, 1 << 1}, "[7f,81]"}} {
		if got := set.Text(c.s); got != c.text {
			t.Errorf("%s, want %s", got, c.text)
		}
	}
}

// everySecond writes every second byte from low on, below high.
func everySecond(low, high int) string {
	var all []string
	for b := low; b < high; b += 2 {
		all = append(all, fmt.Sprintf("%02x", b))
	}
	return strings.Join(all, ",")
}

// TestP5_5: Not and Union of any sets.
func TestP5_5(t *testing.T) {
	var sets []api.Set
	for _, m := range pool() {
		sets = append(sets, set.Of(string(m.bytes())))
	}
	for i, a := range sets {
		for b := range 256 {
			if set.Has(a, byte(b)) == set.Has(set.Not(a), byte(b)) {
				t.Errorf("%d: Not doesn't turn %d", i, b)
			}
		}
		if set.Len(a)+set.Len(set.Not(a)) != 256 || set.Not(set.Not(a)) != a {
			t.Errorf("%d: both sides", i)
		}
		if set.Of(string(set.Bytes(a))) != a {
			t.Errorf("%d: Of its Bytes", i)
		}
		for j, b := range sets {
			both := set.Not(set.Union(set.Not(a), set.Not(b)))
			neither := set.Not(set.Union(a, b))
			for c := range 256 {
				inA, inB := set.Has(a, byte(c)), set.Has(b, byte(c))
				if set.Has(both, byte(c)) != (inA && inB) || set.Has(neither, byte(c)) != (!inA && !inB) {
					t.Errorf("%d, %d: De Morgan at %d", i, j, c)
				}
			}
		}
	}
}

// TestKept: what is handed in stays as it is; what is told is a copy each time.
func TestKept(t *testing.T) {
	list := []api.Set{set.Of("a"), set.Of("b"), set.Of("z")}
	whole := list[:2]
	union := set.Union(whole...)
	if list[0] != set.Of("a") || list[1] != set.Of("b") || list[2] != set.Of("z") {
		t.Error("Union changes what it is handed")
	}
	want(t, "Union of two of three", union, among("ab"))
	list[0], list[1] = set.Of("c"), api.Set{}
	want(t, "Union, its list changed", union, among("ab"))

	s := set.Of("abc")
	first := set.Bytes(s)
	second := set.Bytes(s)
	_ = append(first[:1], "XYZ"...)
	for i := range first {
		first[i] = 'Y'
	}
	if string(second) != "abc" || string(set.Bytes(s)) != "abc" {
		t.Errorf("Bytes share memory: %q", second)
	}

	class, _ := set.Class("digit")
	class[0] = 0
	again, ok := set.Class("digit")
	if !ok || set.Text(again) != "[30-39]" {
		t.Errorf("a class that was told is kept: %s", set.Text(again))
	}
}
