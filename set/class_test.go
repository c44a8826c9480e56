package set_test

import (
	"testing"

	"pidgin/api"
	"pidgin/set"
)

const (
	small  = "abcdefghijklmnopqrstuvwxyz"
	great  = "ABCDEFGHIJKLMNOPQRSTUVWXYZ"
	digits = "0123456789"
	marks  = "!\"#$%&'()*+,-./:;<=>?@[\\]^_`{|}~"
)

// classes tells each class's bytes.
func classes() map[string]members {
	return map[string]members{
		"alpha": among(small + great), "digit": among(digits), "alnum": among(small + great + digits), "upper": among(great), "lower": among(small),
		"space": among("\t\n\v\f\r "), "blank": among("\t "), "print": among(" " + small + great + digits + marks), "graph": among(small + great + digits + marks), "punct": among(marks),
		"cntrl": between(0, 31).with(among("\x7f")), "xdigit": among(digits + "abcdefABCDEF"),
	}
}

// TestP5_2: each class, byte by byte.
func TestP5_2(t *testing.T) {
	if len(classes()) != 12 || len(marks) != 32 {
		t.Fatal("twelve classes, 32 marks")
	}
	for name, m := range classes() {
		s, ok := set.Class(name)
		if !ok {
			t.Errorf("no class %s", name)
		}
		want(t, name, s, m)
	}
	for name, text := range map[string]string{
		"alpha": "[41-5a,61-7a]", "digit": "[30-39]", "alnum": "[30-39,41-5a,61-7a]", "upper": "[41-5a]", "lower": "[61-7a]", "space": "[09-0d,20]", "blank": "[09,20]", "print": "[20-7e]", "graph": "[21-7e]", "punct": "[21-2f,3a-40,5b-60,7b-7e]", "cntrl": "[00-1f,7f]", "xdigit": "[30-39,41-46,61-66]",
	} {
		if s, _ := set.Class(name); set.Text(s) != text {
			t.Errorf("%s: %s, want %s", name, set.Text(s), text)
		}
	}
}

// TestP5_2Others: what is no class's name.
func TestP5_2Others(t *testing.T) {
	others := []string{"", " ", "a", "alph", "alphabet", "word", "ascii", "letter", ":alpha:", "[:alpha:]", "alpha:", "digit\x00", "\x00digit", "\ndigit", "digitdigit", "alpha digit", "^alpha", "é", "\xff"}
	for name := range classes() {
		others = append(others, " "+name, name+" ", "\t"+name, name+"\n", name[:1]+" "+name[1:], name[2:], name[:len(name)-1], string(name[0]-32)+name[1:], upper(name), name+"s")
	}
	for _, name := range others {
		if s, ok := set.Class(name); ok || s != (api.Set{}) {
			t.Errorf("%q: %s, %v", name, set.Text(s), ok)
		}
	}
}

// upper writes a name in great letters.
func upper(name string) string {
	out := ""
	for i := range len(name) {
		out += string(rune(name[i] - 'a' + 'A'))
	}
	return out
}

// TestP5_5Classes: no class has a byte above 127; what they have in common and apart.
func TestP5_5Classes(t *testing.T) {
	told := map[string]api.Set{}
	for name := range classes() {
		s, _ := set.Class(name)
		told[name] = s
		for b := 128; b < 256; b++ {
			if set.Has(s, byte(b)) {
				t.Errorf("%s has %d", name, b)
			}
		}
		if set.Len(s) == 0 {
			t.Errorf("%s has none", name)
		}
	}
	for part, whole := range map[string]string{
		"upper": "alpha", "lower": "alpha", "alpha": "alnum", "digit": "xdigit", "xdigit": "alnum", "alnum": "graph", "punct": "graph", "graph": "print", "blank": "space",
	} {
		if set.Union(told[part], told[whole]) != told[whole] || told[part] == told[whole] {
			t.Errorf("%s is no part of %s", part, whole)
		}
	}
	if set.Union(told["print"], told["cntrl"]) != set.Range(0, 127) || set.Union(told["graph"], set.Of(" ")) != told["print"] {
		t.Error("print and cntrl are the bytes of ASCII")
	}
}
