package scan_test

import (
	"bytes"
	"math"
	"strings"
	"sync"
	"testing"

	"pidgin/scan"
)

// everyByte tells all 256 bytes, rising.
func everyByte() []byte {
	b := make([]byte, 256)
	for i := range b {
		b[i] = byte(i)
	}
	return b
}

// subjects tells texts of many kinds.
func subjects() []string {
	return []string{"", "a", "abc", "aab", "aaab\n ", "  \t\nx y", "\x00\x00", "\x80\xff\xc3\xa9", "0x1Fg", "-007", strings.Repeat("ab", 500), string(everyByte())}
}

// texts tells what may be taken, passed or stopped at.
func texts() []string {
	return []string{"", "a", "ab", "ba", "b", " ", " \t\n", "abc", "\x00", "\xff", "\xc3\xa9", "\xa9", "é", "\x80\xff\xc3\xa9!", strings.Repeat("a", 600), string(everyByte())}
}

func wantPlace(t *testing.T, c *scan.Cursor, pos, left int) {
	t.Helper()
	if c.Pos() != pos || c.Left() != left {
		t.Errorf("at %d with %d left, want %d with %d", c.Pos(), c.Left(), pos, left)
	}
}

func wantByte(t *testing.T, what string, b byte, ok bool, want byte, wantOK bool) {
	t.Helper()
	if b != want || ok != wantOK {
		t.Errorf("%s: %d %v, want %d %v", what, b, ok, want, wantOK)
	}
}

// at tells a cursor over s at the place pos.
func at(t *testing.T, s string, pos int) *scan.Cursor {
	t.Helper()
	c := scan.New([]byte(s))
	for range pos {
		if _, ok := c.Next(); !ok {
			t.Fatalf("%q has no place %d", s, pos)
		}
	}
	return c
}

// TestP2_1: a cursor goes over all bytes, one by one, and stays at the end.
func TestP2_1(t *testing.T) {
	for _, s := range subjects() {
		c := scan.New([]byte(s))
		if c == nil {
			t.Fatalf("%q: no cursor", s)
		}
		for i := range len(s) {
			wantPlace(t, c, i, len(s)-i)
			for range 2 { // looking doesn't go on
				b, ok := c.Peek()
				wantByte(t, "Peek", b, ok, s[i], true)
				wantPlace(t, c, i, len(s)-i)
			}
			b, ok := c.Next()
			wantByte(t, "Next", b, ok, s[i], true)
		}
		for range 3 {
			wantPlace(t, c, len(s), 0)
			b, ok := c.Peek()
			wantByte(t, "Peek at the end", b, ok, 0, false)
			b, ok = c.Next()
			wantByte(t, "Next at the end", b, ok, 0, false)
		}
	}
}

// TestP2_1Nothing: a cursor over nil is one over no bytes.
func TestP2_1Nothing(t *testing.T) {
	c := scan.New(nil)
	if c == nil {
		t.Fatal("no cursor")
	}
	wantPlace(t, c, 0, 0)
	b, ok := c.Next()
	wantByte(t, "Next", b, ok, 0, false)
	if !c.Take("") || c.Take("a") || !c.Back(0) || c.Back(1) {
		t.Error("Take and Back of no bytes")
	}
}

// TestP2_2Back: back by as many bytes as there are ahead, and by no others.
func TestP2_2Back(t *testing.T) {
	const s = "abcdef"
	for pos := range len(s) + 1 {
		for _, n := range []int{math.MinInt, math.MinInt32, -len(s), -2, -1, 0, 1, 2, 3, 4, 5, 6, 7, 8, 1 << 32, math.MaxInt - 1, math.MaxInt} {
			c := at(t, s, pos)
			want, went := pos, n >= 0 && n <= pos
			if went {
				want = pos - n
			}
			if c.Back(n) != went {
				t.Errorf("Back(%d) at %d is not %v", n, pos, went)
			}
			wantPlace(t, c, want, len(s)-want)
			b, ok := c.Peek()
			if want < len(s) {
				wantByte(t, "behind Back", b, ok, s[want], true)
			} else {
				wantByte(t, "behind Back at the end", b, ok, 0, false)
			}
		}
	}
}

// TestP2_2Take: a text is taken just where it stands.
func TestP2_2Take(t *testing.T) {
	for _, s := range subjects() {
		for _, text := range texts() {
			for _, pos := range []int{0, len(s) / 3, len(s)} {
				c := at(t, s, pos)
				taken, want := strings.HasPrefix(s[pos:], text), pos
				if taken {
					want += len(text)
				}
				if c.Take(text) != taken {
					t.Errorf("Take(%q) at %d of %q is not %v", text, pos, s, taken)
				}
				wantPlace(t, c, want, len(s)-want)
			}
		}
	}
}

// TestP2_2TakeEdges: the empty text, and texts that go beyond the end.
func TestP2_2TakeEdges(t *testing.T) {
	c := scan.New([]byte("<<=x"))
	for i, step := range []struct {
		text  string
		taken bool
		pos   int
	}{
		{"", true, 0}, {"<<=x!", false, 0}, {"<=", false, 0}, {"<<", true, 2}, {"", true, 2}, {"=", true, 3}, {"xx", false, 3}, {"x", true, 4}, {"", true, 4}, {"x", false, 4}, {"\x00", false, 4},
	} {
		if c.Take(step.text) != step.taken {
			t.Errorf("%d: Take(%q) is not %v", i, step.text, step.taken)
		}
		wantPlace(t, c, step.pos, 4-step.pos)
	}
}

// passed tells how many bytes at the beginning of s are among those of set (within), or none of them (not within).
func passed(s, set string, within bool) int {
	n := 0
	for n < len(s) && bytes.IndexByte([]byte(set), s[n]) >= 0 == within {
		n++
	}
	return n
}

// TestP2_3: While passes what is in the set, Until what is not, byte by byte.
func TestP2_3(t *testing.T) {
	for _, s := range subjects() {
		for _, set := range texts() {
			for _, pos := range []int{0, len(s) / 3, len(s)} {
				c := at(t, s, pos)
				n := passed(s[pos:], set, true)
				if got := c.While(set); string(got) != s[pos:pos+n] {
					t.Errorf("While(%q) at %d of %q: %q", set, pos, s, got)
				}
				wantPlace(t, c, pos+n, len(s)-pos-n)

				c = at(t, s, pos)
				n = passed(s[pos:], set, false)
				if got := c.Until(set); string(got) != s[pos:pos+n] {
					t.Errorf("Until(%q) at %d of %q: %q", set, pos, s, got)
				}
				wantPlace(t, c, pos+n, len(s)-pos-n)
			}
		}
	}
}

// TestP2_3Edges: empty sets, bytes that stand twice, halves of runes.
func TestP2_3Edges(t *testing.T) {
	c := scan.New([]byte("aab\xc3\xa9\xc3b"))
	for i, step := range []struct {
		call func(string) []byte
		set  string
		want string
	}{
		{c.While, "", ""}, {c.Until, "a", ""}, {c.While, "b", ""}, {c.While, "aa", "aa"}, {c.While, "a", ""}, {c.Until, "\xa9", "b\xc3"}, {c.While, "é", "\xa9\xc3"}, {c.Until, "", "b"}, {c.Until, "", ""}, {c.While, "b", ""},
	} {
		if got := string(step.call(step.set)); got != step.want {
			t.Errorf("%d: %q, want %q", i, got, step.want)
		}
	}
	wantPlace(t, c, 7, 0)
}

// TestP2_8: the longest name at the beginning.
func TestP2_8(t *testing.T) {
	for s, want := range map[string]int{
		"": 0, "a": 1, "_": 1, "9": 0, "9a": 0, "a9": 2, "_9_": 3, "__": 2, "abc def": 3, " abc": 0, "aZ09_-": 5, "-a": 0, "a=b": 1, "x\x00y": 1, "a\xc3\xa9": 1, "\xc3\xa9": 0, "\xff": 0, "A1b2[": 4, "`": 0, "{": 0, "@": 0, "[": 0, "a/": 1, "a:": 1,
		strings.Repeat("n", 5000): 5000, strings.Repeat("0", 5000): 0, "_" + strings.Repeat("0", 5000): 5001,
	} {
		if got := scan.Name([]byte(s)); got != want {
			t.Errorf("%q: %d, want %d", s, got, want)
		}
	}
	if scan.Name(nil) != 0 {
		t.Error("of nil")
	}
}

// TestP2_8Bytes: which bytes a name may begin with, and which may go on.
func TestP2_8Bytes(t *testing.T) {
	const begins = "abcdefghijklmnopqrstuvwxyzABCDEFGHIJKLMNOPQRSTUVWXYZ_"
	for _, c := range everyByte() {
		want := bytes.Count([]byte(begins), []byte{c})
		if got := scan.Name([]byte{c}); got != want {
			t.Errorf("byte %d first: %d", c, got)
		}
		want = 1 + bytes.Count([]byte(begins+"0123456789"), []byte{c})
		if got := scan.Name([]byte{'q', c}); got != want {
			t.Errorf("byte %d second: %d", c, got)
		}
	}
}

// TestP2_9Cursor: what is passed, in turns, is what was there; Pos and Left are together as many as there are.
func TestP2_9Cursor(t *testing.T) {
	for _, s := range subjects() {
		for _, set := range texts() {
			c := scan.New([]byte(s))
			var all []byte
			for range len(s) + 1 {
				for _, pass := range []func(string) []byte{c.While, c.Until} {
					all = append(all, pass(set)...)
					if c.Pos()+c.Left() != len(s) || c.Pos() != len(all) {
						t.Fatalf("%q by %q: at %d with %d left behind %q", s, set, c.Pos(), c.Left(), all)
					}
				}
			}
			if string(all) != s || c.Left() != 0 {
				t.Errorf("%q by %q: %q", s, set, all)
			}
		}
	}
}

// TestOwnCopy: a cursor keeps a copy of the bytes, not the bytes.
func TestOwnCopy(t *testing.T) {
	b := []byte("abcdef")
	c := scan.New(b[:4:6])
	copy(b, "zzzzzz")
	if got := c.Until(""); string(got) != "abcd" {
		t.Errorf("%q", got)
	}
	if string(b) != "zzzzzz" {
		t.Errorf("the bytes are changed: %q", b)
	}
}

// TestNewMemory: what is told is the caller's own, and no call changes what it is handed.
func TestNewMemory(t *testing.T) {
	b := []byte("aabb!aabb")
	c := scan.New(b[:8])
	first := c.While("a")
	second := c.While("b")
	_ = append(first, "XXXX"...)
	for i := range first {
		first[i] = 'Y'
	}
	if string(second) != "bb" {
		t.Errorf("two answers share memory: %q", second)
	}
	_ = append(second, "XXXX"...)
	c.Back(4)
	if again := c.Until(""); string(again) != "aabb!aab" {
		t.Errorf("an answer shares the cursor's memory: %q", again)
	}
	scan.Name(b[:3])
	scan.Digits(b[:3], 16)
	scan.Const(b[:3])
	if string(b) != "aabb!aabb" {
		t.Errorf("what was handed in is changed: %q", b)
	}
}

// TestBehindTheLength: what lies behind a list's length is not read.
func TestBehindTheLength(t *testing.T) {
	digits, name := []byte("0x123456"), []byte("name_1")
	if value, n, over := scan.Digits(digits[2:4], 10); value != 12 || n != 2 || over {
		t.Error("Digits:", value, n, over)
	}
	if value, n, over := scan.Const(digits[:2]); value != 0 || n != 1 || over {
		t.Error("Const of 0x:", value, n, over)
	}
	if value, n, over := scan.Const(digits[:4]); value != 0x12 || n != 4 || over {
		t.Error("Const:", value, n, over)
	}
	if n := scan.Name(name[:3]); n != 3 {
		t.Error("Name:", n)
	}
	c := scan.New(name[:4])
	if c.Take("name_") || !c.Take("name") {
		t.Error("Take")
	}
	if got := c.Until(" "); len(got) != 0 || c.Left() != 0 {
		t.Errorf("Until: %q", got)
	}
}

// TestNilCursor: a nil cursor tells zero values; one that was not made by New has no bytes.
func TestNilCursor(t *testing.T) {
	var none *scan.Cursor
	for _, c := range []*scan.Cursor{none, {}} {
		wantPlace(t, c, 0, 0)
		b, ok := c.Peek()
		wantByte(t, "Peek", b, ok, 0, false)
		b, ok = c.Next()
		wantByte(t, "Next", b, ok, 0, false)
		if len(c.While("ab")) != 0 || len(c.Until("ab")) != 0 || len(c.Until("")) != 0 || c.Back(1) || c.Back(-1) || c.Take("a") {
			t.Error("more than zero values")
		}
	}
	if none.Take("") || none.Back(0) {
		t.Error("a nil cursor takes and goes back")
	}
}

// TestTwoCursors: cursors over the same bytes go each for itself, at one time too.
func TestTwoCursors(t *testing.T) {
	b := []byte(strings.Repeat("ab", 300))
	var all sync.WaitGroup
	for range 8 {
		all.Go(func() {
			c := scan.New(b)
			for i := range 300 {
				if c.Pos() != 2*i || string(c.While("a")) != "a" || string(c.Until("a")) != "b" {
					t.Errorf("turn %d: at %d", i, c.Pos())
					return
				}
			}
		})
	}
	all.Wait()
}
