package retext_test

import (
	"strconv"
	"strings"
	"testing"

	"pidgin/api"
	"pidgin/fault"
	"pidgin/retext"
)

// The two grammars, as Parse is told of them.
const (
	basic    = false
	extended = true
)

// langOf tells a grammar's language.
func langOf(ext bool) int {
	if ext {
		return api.LangEre
	}
	return api.LangBre
}

// hex writes a byte as Text writes it.
func hex(b byte) string {
	return "[" + strconv.FormatInt(0x100+int64(b), 16)[1:] + "]"
}

// wrap writes parts as one; one alone is itself.
func wrap(word string, parts []string) string {
	if len(parts) == 1 {
		return parts[0]
	}
	return "(" + word + " " + strings.Join(parts, " ") + ")"
}

// hexes writes bytes, one behind the other, as Text writes them.
func hexes(text string) string {
	words := make([]string, len(text))
	for i := range words {
		words[i] = hex(text[i])
	}
	return wrap("cat", words)
}

// parse reads an expression that may be.
func parse(t *testing.T, text string, ext bool) *retext.Re {
	t.Helper()
	r, err := retext.Parse([]byte(text), ext)
	if r == nil || err != nil {
		t.Fatalf("%.300q, extended %v: %v, %s", text, ext, r, fault.Text(fault.Tell(err)))
	}
	return r
}

// wantText: the expression is written so, and so is its tree.
func wantText(t *testing.T, text string, ext bool, want string) {
	t.Helper()
	r := parse(t, text, ext)
	if got := r.Text(); got != want {
		t.Errorf("%.300q, extended %v: %.300s, want %.300s", text, ext, got, want)
	}
	if got := textOf(t, r.Tree()); got != want {
		t.Errorf("%.300q, extended %v: the tree is %.300s, want %.300s", text, ext, got, want)
	}
	if groups := strings.Count(want, "(group "); r.Groups() != groups || r.Ext() != ext {
		t.Errorf("%.300q, extended %v: %d groups, extended %v, want %d", text, ext, r.Groups(), r.Ext(), groups)
	}
}

// wantBoth: both grammars read the expression so.
func wantBoth(t *testing.T, text, want string) {
	t.Helper()
	wantText(t, text, basic, want)
	wantText(t, text, extended, want)
}

// wantFault: the expression is refused so, and nothing is told beside that.
func wantFault(t *testing.T, text string, ext bool, code, pos int) {
	t.Helper()
	r, err := retext.Parse([]byte(text), ext)
	if want := (api.Fault{Code: code, Pos: pos, Lang: langOf(ext)}); r != nil || fault.Tell(err) != want {
		t.Errorf("%.300q: %.300s, %s, want %s", text, r.Text(), fault.Text(fault.Tell(err)), fault.Text(want))
	}
}

// textOf writes a tree, and sees that no field is filled that its kind gives no meaning.
func textOf(t *testing.T, re api.Re) string {
	t.Helper()
	clean := api.Re{Kind: re.Kind}
	least, word := 0, ""
	switch re.Kind {
	case api.ReSet:
		clean.Set, word = re.Set, setText(re.Set)
	case api.ReBegin:
		word = "^"
	case api.ReEnd:
		word = "$"
	case api.ReCat:
		least, word = 2, "(cat"
	case api.ReAlt:
		least, word = 2, "(alt"
	case api.ReRep:
		clean.Min, clean.Max = re.Min, re.Max
		least, word = 1, "(rep "+strconv.Itoa(re.Min)+" "+strings.Replace(strconv.Itoa(re.Max), "-1", "-", 1)
	case api.ReGroup:
		clean.Group = re.Group
		least, word = 1, "(group "+strconv.Itoa(re.Group)
	default:
		t.Errorf("a part of kind %d", re.Kind)
	}
	if re.Set != clean.Set || re.Min != clean.Min || re.Max != clean.Max || re.Group != clean.Group {
		t.Errorf("%s has fields without a meaning: %v", word, re)
	}
	if len(re.Kids) < least || least < 2 && len(re.Kids) > least {
		t.Errorf("%s has %d kids", word, len(re.Kids))
	}
	if least == 0 {
		return word
	}
	for _, kid := range re.Kids {
		if kid.Kind == re.Kind && (re.Kind == api.ReCat || re.Kind == api.ReAlt) {
			t.Errorf("%s right within one", word)
		}
		word += " " + textOf(t, kid)
	}
	return word + ")"
}

// setText writes a set, by the borders of its runs.
func setText(s api.Set) string {
	runs := ""
	for b := range 256 {
		digits := strconv.FormatInt(0x100+int64(b), 16)[1:]
		switch {
		case !has(s, b):
		case !has(s, b-1):
			runs += "," + digits
		case !has(s, b+1):
			runs += "-" + digits
		}
	}
	if runs == ",00-ff" {
		return "."
	}
	return "[" + strings.TrimPrefix(runs, ",") + "]"
}

// has says whether a byte is in a set; what is no byte is in none.
func has(s api.Set, b int) bool {
	return 0 <= b && b < 256 && s[b/64]>>(b%64)&1 == 1
}

// setOf tells the part that is one of those bytes.
func setOf(bytes ...byte) api.Re {
	re := api.Re{Kind: api.ReSet}
	for _, b := range bytes {
		re.Set[b/64] |= 1 << (b % 64)
	}
	return re
}

// eachByte hands on each byte, as a text.
func eachByte(hand func(b byte, text string)) {
	for b := range 256 {
		hand(byte(b), string([]byte{byte(b)}))
	}
}

// rows hands on each row of up to most tokens.
func rows(tokens []string, most int, hand func(text string)) {
	var from func(text string, left int)
	from = func(text string, left int) {
		hand(text)
		if left == 0 {
			return
		}
		for _, token := range tokens {
			from(text+token, left-1)
		}
	}
	from("", most)
}
