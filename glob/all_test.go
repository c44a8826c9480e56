package glob_test

import (
	"slices"
	"strconv"
	"strings"
	"testing"

	"pidgin/api"
	"pidgin/glob"
)

// The tests of this file hold patterns of all short rows of tokens against a second reading, which knows brackets by itself: it cuts what stands behind a [ into tokens first, and only then looks for the ] that ends and for ranges.

// bytesOf tells all bytes for which in holds, as a piece.
func bytesOf(in func(b byte) bool) api.Piece {
	var all []byte
	for b := range 256 {
		if in(byte(b)) {
			all = append(all, byte(b))
		}
	}
	return only(all...)
}

// tokensOf cuts what stands behind a [ (and behind what turns it): bytes, quoted bytes, classes, and beginnings of what may not be.
func tokensOf(text string) []string {
	var tokens []string
	for text != "" {
		n := 1
		switch {
		case strings.HasPrefix(text, "[:digit:]"):
			n = len("[:digit:]")
		case strings.HasPrefix(text, "[:"), strings.HasPrefix(text, "[."), strings.HasPrefix(text, "[="), text[0] == '\\' && len(text) > 1:
			n = 2
		}
		tokens, text = append(tokens, text[:n]), text[n:]
	}
	return tokens
}

// byteOf tells the byte that a token is; false, if it is none.
func byteOf(token string) (byte, bool) {
	switch {
	case len(token) == 1 && token != `\`:
		return token[0], true
	case len(token) == 2 && token[0] == '\\':
		return token[1], true
	}
	return 0, false
}

// bracketOf tells the bracket at the beginning of a text, and its length; false, if it may not be. Its one class is digit.
func bracketOf(text string) (api.Piece, int, bool) {
	var in [256]bool
	length := 1
	turned := strings.HasPrefix(text[1:], "^") || strings.HasPrefix(text[1:], "!")
	if turned {
		length++
	}
	tokens := tokensOf(text[length:])
	for i := 0; i < len(tokens); i++ {
		length += len(tokens[i])
		if tokens[i] == "]" && i > 0 {
			return bytesOf(func(b byte) bool { return in[b] != turned }), length, true
		}
		if tokens[i] == "[:digit:]" {
			for b := '0'; b <= '9'; b++ {
				in[b] = true
			}
			continue
		}
		low, ok := byteOf(tokens[i])
		high := low
		if i+2 < len(tokens) && tokens[i+1] == "-" && tokens[i+2] != "]" {
			length += len(tokens[i+1]) + len(tokens[i+2])
			last, isByte := byteOf(tokens[i+2])
			high, ok = last, ok && isByte && low <= last
			i += 2
		}
		if !ok {
			break
		}
		for b := int(low); b <= int(high); b++ {
			in[b] = true
		}
	}
	return api.Piece{}, 0, false
}

// second tells the pieces of a text, from the left.
func second(text string) []api.Piece {
	if text == "" {
		return nil
	}
	piece, length := only(text[0]), 1
	switch text[0] {
	case '*':
		piece = api.Piece{Kind: api.GMany}
	case '?':
		piece = api.Piece{Kind: api.GOne}
	case '[':
		if bracket, end, ok := bracketOf(text); ok {
			piece, length = bracket, end
		}
	case '\\':
		if len(text) > 1 {
			piece, length = only(text[1]), 2
		}
	}
	return append([]api.Piece{piece}, second(text[length:])...)
}

// secondText writes pieces by the borders of runs, and tells the bytes that they are.
func secondText(pieces []api.Piece) (text, plain string, isPlain bool) {
	var words []string
	isPlain = true
	for _, piece := range pieces {
		if piece.Kind != api.GByte {
			words, isPlain = append(words, [...]string{api.GOne: "?", api.GMany: "*"}[piece.Kind]), false
			continue
		}
		var bytes []byte
		runs := ""
		for b := range 256 {
			if !has(piece, b) {
				continue
			}
			bytes = append(bytes, byte(b))
			digits := strconv.FormatInt(int64(0x100+b), 16)[1:]
			switch {
			case !has(piece, b-1):
				runs += "," + digits
			case !has(piece, b+1):
				runs += "-" + digits
			}
		}
		words = append(words, "["+strings.TrimPrefix(runs, ",")+"]")
		plain, isPlain = plain+string(bytes), isPlain && len(bytes) == 1
	}
	if !isPlain {
		plain = ""
	}
	return strings.Join(words, " "), plain, isPlain
}

// has says whether a byte is in a piece's set; what is no byte is in none.
func has(piece api.Piece, b int) bool {
	return 0 <= b && b < 256 && piece.Set[b/64]>>(b%64)&1 == 1
}

// check holds all that a pattern tells against the second reading; there are at most as many pieces as bytes (P6.4).
func check(t *testing.T, text string) {
	t.Helper()
	p, err := glob.Parse([]byte(text))
	if p == nil || err != nil {
		t.Fatalf("%q is refused: %v", text, err)
	}
	want := second(text)
	if got := p.Pieces(); !slices.Equal(got, want) || len(got) > len(text) {
		t.Fatalf("%q: %v, want %v", text, got, want)
	}
	words, plain, isPlain := secondText(want)
	if got := p.Text(); got != words {
		t.Fatalf("%q: %s, want %s", text, got, words)
	}
	if got, ok := p.Plain(); got != plain || ok != isPlain {
		t.Fatalf("%q: Plain %q %v, want %q %v", text, got, ok, plain, isPlain)
	}
}

// checkQuote: Plain of Parse of Quote is the text, and Quote adds nothing but the \ ahead of signs (P6.4).
func checkQuote(t *testing.T, text string) {
	t.Helper()
	quoted := glob.Quote(text)
	if want := strings.NewReplacer("*", `\*`, "?", `\?`, "[", `\[`, `\`, `\\`).Replace(text); quoted != want {
		t.Fatalf("Quote(%q): %q, want %q", text, quoted, want)
	}
	if len(quoted) > api.MaxGlob {
		wantLong(t, quoted)
		return
	}
	p, err := glob.Parse([]byte(quoted))
	if got, ok := p.Plain(); got != text || !ok || err != nil {
		t.Fatalf("%q, quoted %q: Plain %q %v, %v", text, quoted, got, ok, err)
	}
}

// rows hands on each row of up to most tokens.
func rows(tokens []string, most int, hand func(text string)) {
	var from func(text string, left int)
	from = func(text string, left int) {
		hand(text)
		if left == 0 {
			return
		}
		for _, token := range tokens {
			from(text+token, left-1)
		}
	}
	from("", most)
}

// TestP6_1AllBytes: all short texts of the bytes that have a meaning in patterns.
func TestP6_1AllBytes(t *testing.T) {
	rows(strings.Split(`*?[]\^!-:=a`, ""), 4, func(text string) {
		check(t, text)
		check(t, "["+text+"]")
	})
}

// TestP6_1AllTokens: all short rows of what stands in patterns.
func TestP6_1AllTokens(t *testing.T) {
	rows([]string{"[", "]", "[!", "b", "a-z", "z-a", "-", `\`, "[:digit:]", "[:x:]", "[.", "*", "\xff"}, 4, func(text string) {
		check(t, text)
		check(t, "x[^"+text+"]?")
	})
}

// TestP6_4Quote: all short texts, and long ones, go through Quote, Parse and Plain unchanged.
func TestP6_4Quote(t *testing.T) {
	rows(strings.Split(`*?[]\^!-:a`, ""), 4, func(text string) { checkQuote(t, text) })
	rows([]string{"[a]", `\*`, "[z-a]", "[[:digit:]]", "é", "\xff", "\x00"}, 4, func(text string) { checkQuote(t, text) })
	eachByte(func(b byte, text string) {
		for _, times := range []int{1, 2, 127, 128, 129, 255, 256, 257} {
			checkQuote(t, strings.Repeat(text, times))
		}
		checkQuote(t, strings.Repeat(text+"*", 85))
		checkQuote(t, strings.Repeat(text+"*", 86))
	})
}

// TestP6_4AtMost: there are at most as many pieces as bytes, in long patterns too.
func TestP6_4AtMost(t *testing.T) {
	rows([]string{"a", "*", "[", "[b-d]", `\`, "]", "[z-a"}, 3, func(text string) {
		if text != "" {
			check(t, strings.Repeat(text, api.MaxGlob/len(text)))
		}
	})
}

// TestP6_5: pieces of two patterns, one text behind the other, are the one's and the other's, whatever the other is.
func TestP6_5(t *testing.T) {
	var others []string
	rows([]string{"a", "*", "?", "[", "]", "[!a-c]", `\`, "-", "[:x:]"}, 2, func(text string) { others = append(others, text) })
	rows([]string{"a", "*", "?", "]", "!", "-", `\\`, `\*`, `\a`, "\x00", "\xff"}, 3, func(text string) {
		first := parse(t, text)
		for _, other := range others {
			next := parse(t, other)
			both := parse(t, text+other)
			if want := append(first.Pieces(), next.Pieces()...); !slices.Equal(both.Pieces(), want) {
				t.Fatalf("%q and %q: %s, then %s, but together %s", text, other, first.Text(), next.Text(), both.Text())
			}
			if want := strings.TrimSpace(first.Text() + " " + next.Text()); both.Text() != want {
				t.Fatalf("%q and %q: %s, want %s", text, other, both.Text(), want)
			}
			firstPlain, ok1 := first.Plain()
			nextPlain, ok2 := next.Plain()
			if plain, ok := both.Plain(); ok != (ok1 && ok2) || ok && plain != firstPlain+nextPlain {
				t.Fatalf("%q and %q: Plain %q %v", text, other, plain, ok)
			}
		}
	})
	// What the first must not have: a [, for which the other may have the ], and a \ that would quote.
	wantText(t, "[a", "[5b] [61]")
	wantText(t, "[a"+"b]", "[61-62]")
	wantText(t, `a\`+"*", "[61] [2a]")
}
