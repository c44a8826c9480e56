package set_test

import (
	"strings"
	"testing"

	"pidgin/api"
	"pidgin/fault"
	"pidgin/set"
)

// The tests of this file hold brackets of all short rows of tokens against a second reading: it cuts the text into tokens first, which no place makes another, and only then looks for the ] that ends and for ranges.

// read is what a bracket is: members and the place behind it, or a fault.
type read struct {
	in   members
	end  int
	code int
	pos  int
}

// cut tells the first token of a text.
func cut(text string, lang int) string {
	switch {
	case strings.HasPrefix(text, "[:"):
		if name, _, ok := strings.Cut(text[2:], ":]"); ok {
			return text[:len(name)+4]
		}
		return "[:"
	case strings.HasPrefix(text, "[."), strings.HasPrefix(text, "[="), lang == api.LangGlob && text[0] == '\\' && len(text) > 1:
		return text[:2]
	}
	return text[:1]
}

// tokensOf cuts a text, and tells where each token begins (and, last, where the text ends).
func tokensOf(text string, lang, from int) (tokens []string, places []int) {
	for from < len(text) {
		token := cut(text[from:], lang)
		tokens, places = append(tokens, token), append(places, from)
		from += len(token)
	}
	return tokens, append(places, len(text))
}

// meaning tells what a token is: one byte, or a class, or nothing that may stand there.
func meaning(token string, lang int) (b int, class members, ok bool) {
	switch {
	case len(token) == 2 && token[0] == '\\':
		return int(token[1]), members{}, true
	case len(token) == 1:
		return int(token[0]), members{}, token != `\` || lang != api.LangGlob
	case len(token) > 4 && strings.HasSuffix(token, ":]"):
		class, ok = classes()[token[2:len(token)-2]]
		return -1, class, ok
	}
	return -1, members{}, false
}

// readAll tells what the bracket at the beginning of the text is.
func readAll(text string, lang int) read {
	turn := 0
	if strings.HasPrefix(text, "^") || lang == api.LangGlob && strings.HasPrefix(text, "!") {
		turn = 1
	}
	var in members
	tokens, places := tokensOf(text, lang, turn)
	for i := 0; i < len(tokens); i++ {
		if tokens[i] == "]" && i > 0 {
			if turn == 1 {
				in = in.turned()
			}
			return read{in: in, end: places[i] + 1}
		}
		b, class, ok := meaning(tokens[i], lang)
		if !ok {
			return badToken(tokens[i], places[i], len(text))
		}
		in = in.with(class)
		if b < 0 {
			continue
		}
		last := b
		if i+2 < len(tokens) && tokens[i+1] == "-" && tokens[i+2] != "]" {
			if last, _, ok = meaning(tokens[i+2], lang); !ok || last < 0 {
				return badToken(tokens[i+2], places[i+2], len(text))
			}
			if b > last {
				return read{code: api.CodeRange, pos: places[i]}
			}
			i += 2
		}
		in = in.with(between(b, last))
	}
	return read{code: api.CodeBracket, pos: len(text)}
}

// badToken tells the fault of a token that may not stand where it stands: a backslash quotes nothing at the end, the others begin with the [.
func badToken(token string, place, length int) read {
	if token == `\` {
		place = length
	}
	return read{code: api.CodeBracket, pos: place}
}

// wantRead holds what Bracket tells of b from at against what was read.
func wantRead(t *testing.T, b string, at, lang int, want read) {
	t.Helper()
	s, end, err := set.Bracket([]byte(b), at, lang)
	told := fault.Tell(err)
	if want.code == 0 {
		want.end += at
	} else {
		want.pos += at
	}
	if got := (read{membersOf(s), end, told.Code, told.Pos}); got != want || err != nil && told.Lang != lang {
		t.Fatalf("%q from %d in %d: %s to %d, %s, want %s to %d, %d at %d", b, at, lang, set.Text(s), end, fault.Text(told), want.in.text(), want.end, want.code, want.pos)
	}
}

// check holds a text in all languages against the second reading, with things ahead of it, what turns ahead of it, and things behind its ] (P5.4, P5.6).
func check(t *testing.T, text string) {
	t.Helper()
	for _, lang := range langs() {
		want := readAll(text, lang)
		wantRead(t, text, 0, lang, want)
		wantRead(t, "[]\\["+text, 4, lang, want)
		if want.code == 0 {
			for _, behind := range []string{"", "]", "-z]", ":]", "\\", "[:x"} {
				wantRead(t, text[:want.end]+behind, 0, lang, want)
			}
		}
		if strings.HasPrefix(text, "^") || strings.HasPrefix(text, "!") {
			continue
		}
		if want.code == 0 {
			want.in, want.end = want.in.turned(), want.end+1
		} else {
			want.pos++
		}
		wantRead(t, "^"+text, 0, lang, want)
		if lang == api.LangGlob {
			wantRead(t, "!"+text, 0, lang, want)
		}
	}
}

// rows hands each row of up to most tokens to check.
func rows(t *testing.T, tokens []string, most int) {
	t.Helper()
	var from func(text string, left int)
	from = func(text string, left int) {
		check(t, text)
		if left == 0 {
			return
		}
		for _, token := range tokens {
			from(text+token, left-1)
		}
	}
	from("", most)
}

// TestP5_6Bytes: all short texts of the bytes that have a meaning in brackets.
func TestP5_6Bytes(t *testing.T) {
	rows(t, strings.Split("a]-[^!\\:.", ""), 4)
}

// TestP5_6Tokens: all short rows of what stands in brackets.
func TestP5_6Tokens(t *testing.T) {
	rows(t, []string{"b", "a-z", "-", "]", "^", "\\", "[:digit:]", "[:x:]", "[=", ":]", "\xff", "[:"}, 4)
}

// TestP5_6Ends: rows that end ranges, with a ] behind.
func TestP5_6Ends(t *testing.T) {
	for _, ahead := range strings.Split(" ^ ! ] ^] !] - ^- [:digit:] a-c \\", " ") {
		for low := 0; low < 256; low += 5 {
			for high := 0; high < 256; high += 3 {
				check(t, ahead+string([]byte{byte(low), '-', byte(high), ']'}))
			}
		}
	}
}
