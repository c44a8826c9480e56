package glob_test

import (
	"strconv"
	"strings"
	"testing"

	"pidgin/api"
	"pidgin/fault"
	"pidgin/glob"
)

// hex writes a byte as Text writes it, alone in a set.
func hex(b byte) string {
	return "[" + strconv.FormatInt(0x100+int64(b), 16)[1:] + "]"
}

// hexes writes bytes as Text writes them, each a piece of its own.
func hexes(text string) string {
	words := make([]string, len(text))
	for i := range words {
		words[i] = hex(text[i])
	}
	return strings.Join(words, " ")
}

// parse reads a pattern that is not too long.
func parse(t *testing.T, text string) *glob.Pattern {
	t.Helper()
	p, err := glob.Parse([]byte(text))
	if p == nil || err != nil {
		t.Fatalf("%.300q: %v, %v", text, p, err)
	}
	return p
}

// wantText: the pattern is written so.
func wantText(t *testing.T, text, want string) {
	t.Helper()
	if got := parse(t, text).Text(); got != want {
		t.Errorf("%.300q: %s, want %s", text, got, want)
	}
}

// wantPlain: the pattern is those bytes.
func wantPlain(t *testing.T, text, want string) {
	t.Helper()
	if got, ok := parse(t, text).Plain(); got != want || !ok {
		t.Errorf("%.300q: Plain %q %v, want %q", text, got, ok, want)
	}
}

// wantNotPlain: the pattern is no row of bytes.
func wantNotPlain(t *testing.T, text string) {
	t.Helper()
	if got, ok := parse(t, text).Plain(); got != "" || ok {
		t.Errorf("%.300q: Plain %q %v, want none", text, got, ok)
	}
}

// wantLong: the pattern is too long, and nothing is told beside that.
func wantLong(t *testing.T, text string) {
	t.Helper()
	p, err := glob.Parse([]byte(text))
	if want := (api.Fault{Code: api.CodeLong, Lang: api.LangGlob}); p != nil || fault.Tell(err) != want {
		t.Errorf("%d bytes %.10q: %v, %s, want %s", len(text), text, p, fault.Text(fault.Tell(err)), fault.Text(want))
	}
}

// wantPieces: those pieces and no others.
func wantPieces(t *testing.T, what string, got, want []api.Piece) {
	t.Helper()
	if len(got) != len(want) {
		t.Errorf("%.300q: %d pieces, want %d", what, len(got), len(want))
		return
	}
	for i, piece := range got {
		if piece != want[i] {
			t.Errorf("%.300q: piece %d is %v, want %v", what, i, piece, want[i])
		}
	}
}

// only tells the piece that is one of those bytes.
func only(bytes ...byte) api.Piece {
	piece := api.Piece{Kind: api.GByte}
	for _, b := range bytes {
		piece.Set[b/64] |= 1 << (b % 64)
	}
	return piece
}

// eachByte hands on each byte, as a text.
func eachByte(hand func(b byte, text string)) {
	for b := range 256 {
		hand(byte(b), string([]byte{byte(b)}))
	}
}

// isSign says whether a byte that stands alone in a pattern is something else than itself, or may be.
func isSign(b byte) bool {
	return b == '*' || b == '?' || b == '[' || b == '\\'
}
