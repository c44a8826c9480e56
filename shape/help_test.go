package shape_test

import (
	"bytes"
	"strings"
	"testing"

	"pidgin/api"
	"pidgin/fault"
	"pidgin/shape"
)

// parse reads a format that may be.
func parse(t *testing.T, text string) *shape.Format {
	t.Helper()
	f, err := shape.Parse([]byte(text))
	if f == nil || err != nil {
		t.Fatalf("Parse(%.300q): %s", text, faultText(err))
	}
	return f
}

// printf tells a fault of the language.
func printf(code, pos int) api.Fault {
	return api.Fault{Code: code, Pos: pos, Lang: api.LangForm}
}

// wantRefused: no format beside the error.
func wantRefused(t *testing.T, text string, code, pos int) {
	t.Helper()
	if f, err := shape.Parse([]byte(text)); f != nil || fault.Tell(err) != printf(code, pos) {
		t.Errorf("Parse(%.300q): %v, %s, want %s", text, f, faultText(err), fault.Text(printf(code, pos)))
	}
}

// wantText: what a format is read as.
func wantText(t *testing.T, text, want string) {
	t.Helper()
	if got := parse(t, text).Text(); got != want {
		t.Errorf("Parse(%.300q): %.300s, want %.300s", text, got, want)
	}
}

// wantParts: the parts of a format.
func wantParts(t *testing.T, text string, want []api.Part) {
	t.Helper()
	if got := parse(t, text).Parts(); !equal(got, want) {
		t.Errorf("Parts of %.300q: %.600v, want %.600v", text, got, want)
	}
}

// equal tells whether parts are the same in each field.
func equal(a, b []api.Part) bool {
	if len(a) != len(b) {
		return false
	}
	for i, one := range a {
		other := b[i]
		if !bytes.Equal(one.Lit, other.Lit) || one.Conv != other.Conv || one.Width != other.Width || one.Prec != other.Prec {
			return false
		}
		if one.Minus != other.Minus || one.Plus != other.Plus || one.Space != other.Space || one.Zero != other.Zero || one.Alt != other.Alt {
			return false
		}
	}
	return true
}

// lit tells the part of those bytes.
func lit(text string) api.Part {
	return api.Part{Lit: []byte(text)}
}

// faultText writes a fault, for what a test tells.
func faultText(err error) string {
	return fault.Text(fault.Tell(err))
}

// rows hands on each row of up to most tokens.
func rows(tokens []string, most int, hand func(text string)) {
	hand("")
	if most == 0 {
		return
	}
	for _, token := range tokens {
		rows(tokens, most-1, func(text string) { hand(token + text) })
	}
}

// orders hands on each order of those bytes.
func orders(bytes string, hand func(text string)) {
	if bytes == "" {
		hand("")
	}
	for i := range len(bytes) {
		orders(bytes[:i]+bytes[i+1:], func(text string) { hand(bytes[i:i+1] + text) })
	}
}

// flagged tells those of the flags that the bits of mask choose, in the order in which Text writes them.
func flagged(mask int) string {
	var chosen strings.Builder
	for i, sign := range []byte("-+ 0#") {
		if mask>>i&1 == 1 {
			chosen.WriteByte(sign)
		}
	}
	return chosen.String()
}
