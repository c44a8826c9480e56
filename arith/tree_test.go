package arith_test

import (
	"math"
	"reflect"
	"slices"
	"strings"
	"sync"
	"testing"

	"pidgin/api"
	"pidgin/arith"
	"pidgin/scan"
)

// TestP3_2: constants in decimals, names, and each operator ahead of its operands.
func TestP3_2(t *testing.T) {
	for text, want := range map[string]string{
		"0x10":               "16",
		" 010 ":              "8",
		"name":               "name",
		"u":                  "u",
		"-x":                 "(u- x)",
		"+x":                 "(u+ x)",
		"!x":                 "(! x)",
		"~x":                 "(~ x)",
		"x-y":                "(- x y)",
		"x ? 1 : 2":          "(? x 1 2)",
		"x  =  1":            "(= x 1)",
		"x>>=y":              "(>>= x y)",
		"((((x))))":          "x",
		"(x)+((1))":          "(+ x 1)",
		"-(-1)":              "(u- (u- 1))",
		"(a = 1) ? (2) : -3": "(? (= a 1) 2 (u- 3))",
	} {
		wantText(t, text, want)
	}
}

// TestP3_3: the names, rising, each once, and how many constants, names and operators there are.
func TestP3_3(t *testing.T) {
	for text, want := range map[string]struct {
		names string
		size  int
	}{
		"1":                        {"", 1},
		"0x1f + 2":                 {"", 3},
		"a":                        {"a", 1},
		"a=1":                      {"a", 3},
		"a=a":                      {"a", 3},
		"a+=b=c":                   {"a b c", 5},
		"b+a+b+A+_+a1+a":           {"A _ a a1 b", 13},
		"z ? y : x":                {"x y z", 4},
		"z ? y = 1 : x":            {"x y z", 6},
		"((a))":                    {"a", 1},
		"-(+(!(~a)))":              {"a", 5},
		"a10+a9+a1+B+b+aa+a":       {"B a a1 a10 a9 aa b", 13},
		"1 ? 2 : 3 ? 4 : 5":        {"", 7},
		"x <= y == z >= w != v":    {"v w x y z", 9},
		"abc = abcd = ab":          {"ab abc abcd", 5},
		"u + num + name + q - num": {"name num q u", 9},
	} {
		e := parse(t, text)
		if got := strings.Join(e.Names(), " "); got != want.names || e.Size() != want.size {
			t.Errorf("%q: %q, %d, want %q, %d", text, got, e.Size(), want.names, want.size)
		}
	}
	e := parse(t, strings.Repeat("q=", 511)+"p")
	if got := e.Names(); !slices.Equal(got, []string{"p", "q"}) || e.Size() != 1023 {
		t.Error(got, e.Size())
	}
}

// layouts tells a text with white space of several kinds between its tokens, which stand apart by single spaces.
func layouts(spaced string) []string {
	var all []string
	for _, white := range []string{" ", "  ", "\t", "\n", " \t\n ", strings.Repeat("\n", 9)} {
		text := strings.ReplaceAll(spaced, " ", white)
		all = append(all, text, white+text, text+white, white+text+white)
	}
	return all
}

// TestP3_4White: white space between tokens, and at both ends, changes nothing but places.
func TestP3_4White(t *testing.T) {
	for _, spaced := range []string{
		"1", "a", "a = b ? c = 1 : d", "- - a", "( 1 + 2 ) * 3", "a <<= b << 0x1f", "! ~ + - 010", "a && b || c & d | e", "a ? b : c ? d : e", "_x %= ( y ^= 2 ) % z",
	} {
		want := parse(t, spaced)
		for _, text := range layouts(spaced) {
			got := parse(t, text)
			if got.Text() != want.Text() || got.Size() != want.Size() || !slices.Equal(got.Names(), want.Names()) {
				t.Errorf("%q: %q", text, got.Text())
			}
			if !reflect.DeepEqual(placeless(got.Tree()), placeless(want.Tree())) {
				t.Errorf("%q: another tree", text)
			}
		}
	}
	wantText(t, "a=b?c=1:d", "(= a (? b (= c 1) d))")
	wantText(t, "a- -b", "(- a (u- b))")
}

// placeless tells a tree without its places.
func placeless(a api.Arith) api.Arith {
	a.Pos, a.APos = 0, 0
	for i := range a.Kids {
		a.Kids[i] = placeless(a.Kids[i])
	}
	return a
}

// TestP3_4Parentheses: an expression in parentheses is the expression.
func TestP3_4Parentheses(t *testing.T) {
	for _, text := range []string{"1", "a", "a+b*c", "a=1", "a?b:c", "!a", "a=b?c=1:d", "(a)", "-(1+2)"} {
		want := parse(t, text)
		for _, n := range []int{1, 2, 50} {
			got := parse(t, strings.Repeat("(", n)+text+strings.Repeat(")", n))
			if got.Text() != want.Text() || got.Size() != want.Size() || !reflect.DeepEqual(placeless(got.Tree()), placeless(want.Tree())) {
				t.Errorf("%q in %d: %q", text, n, got.Text())
			}
		}
	}
}

// TestP3_6Places: what the data of each kind of part hold, and where the parts stand.
func TestP3_6Places(t *testing.T) {
	num := func(pos int, n int64) api.Arith { return api.Arith{Op: "num", Num: n, Pos: pos} }
	name := func(pos int, s string) api.Arith { return api.Arith{Op: "name", Name: s, Pos: pos} }
	for _, c := range []struct {
		text string
		want api.Arith
	}{
		{" 0x10 ", num(1, 16)},
		{"0", num(0, 0)},
		{"\n\tx", name(2, "x")},
		{"9223372036854775807", num(0, math.MaxInt64)},
		{" - x", api.Arith{Op: "u-", Pos: 1, Kids: []api.Arith{name(3, "x")}}},
		{"+1", api.Arith{Op: "u+", Kids: []api.Arith{num(1, 1)}}},
		{"!~2", api.Arith{Op: "!", Kids: []api.Arith{{Op: "~", Pos: 1, Kids: []api.Arith{num(2, 2)}}}}},
		{"(a) << b", api.Arith{Op: "<<", Pos: 4, Kids: []api.Arith{name(1, "a"), name(7, "b")}}},
		{"a-1-b", api.Arith{Op: "-", Pos: 3, Kids: []api.Arith{{Op: "-", Pos: 1, Kids: []api.Arith{name(0, "a"), num(2, 1)}}, name(4, "b")}}},
		{"a ? 1 : b", api.Arith{Op: "?", Pos: 2, Kids: []api.Arith{name(0, "a"), num(4, 1), name(8, "b")}}},
		{" x  <<= 1", api.Arith{Op: "<<=", Name: "x", Pos: 1, APos: 4, Kids: []api.Arith{num(8, 1)}}},
		{"(y=z%=2)", api.Arith{Op: "=", Name: "y", Pos: 1, APos: 2, Kids: []api.Arith{{Op: "%=", Name: "z", Pos: 3, APos: 4, Kids: []api.Arith{num(6, 2)}}}}},
	} {
		if got := parse(t, c.text).Tree(); !alike(got, c.want) {
			t.Errorf("%q: %+v, want %+v", c.text, got, c.want)
		}
	}
}

// alike tells whether two trees are one, where nil and empty lists are.
func alike(a, b api.Arith) bool {
	if a.Op != b.Op || a.Num != b.Num || a.Name != b.Name || a.Pos != b.Pos || a.APos != b.APos {
		return false
	}
	return slices.EqualFunc(a.Kids, b.Kids, alike)
}

// spoil writes over all that a tree holds.
func spoil(a *api.Arith) {
	kids := a.Kids[:cap(a.Kids)]
	for i := range kids {
		spoil(&kids[i])
	}
	*a = api.Arith{Op: "spoilt", Num: -1, Name: "spoilt", Pos: -1, APos: -1}
}

// TestP3_6Copies: the tree is the caller's own, each time, and its lists share nothing.
func TestP3_6Copies(t *testing.T) {
	for _, text := range []string{"1", "a=b?c=1:d", "a+b*-c-(d||e)", "-(a+(b=2))", "a?b?c:d:e"} {
		e := parse(t, text)
		wantTree, wantText, wantNames := e.Tree(), e.Text(), e.Names()
		first := e.Tree()
		second := e.Tree()
		spoil(&first)
		if !alike(second, wantTree) || !alike(e.Tree(), wantTree) || e.Text() != wantText || e.Size() == 0 {
			t.Errorf("%q: the trees share memory", text)
		}
		for i := range wantNames {
			e.Names()[i] = "spoilt"
		}
		if !slices.Equal(e.Names(), wantNames) {
			t.Errorf("%q: the names share memory", text)
		}
		grown := second
		for len(grown.Kids) > 0 {
			_ = append(grown.Kids, api.Arith{Op: "more"})
			grown = grown.Kids[0]
		}
		if !alike(second, wantTree) {
			t.Errorf("%q: the lists of one tree share memory", text)
		}
	}
}

// TestMemory: what is handed in is neither changed nor kept, and what lies behind its length is not read.
func TestMemory(t *testing.T) {
	b := []byte("abc = 0x12 + dxyz1")
	e, err := arith.Parse(b[:14])
	if err != nil || string(b) != "abc = 0x12 + dxyz1" {
		t.Fatalf("%q, %v", b, err)
	}
	for i := range b {
		b[i] = '$'
	}
	if e.Text() != "(= abc (+ 18 d))" || strings.Join(e.Names(), " ") != "abc d" || e.Tree().Name != "abc" {
		t.Errorf("the text is kept: %q", e.Text())
	}
	wantText(t, string([]byte("12x")[:2]), "12")
	for _, text := range []string{"12x", "1+2", "0x1f", "a=1", "a<<=1", "a||b", "aa"} {
		for n := range len(text) {
			whole, errWhole := arith.Parse([]byte(text)[:n])
			alone, errAlone := arith.Parse([]byte(text[:n]))
			if whole.Text() != alone.Text() || (errWhole == nil) != (errAlone == nil) {
				t.Errorf("%q up to %d: %q, want %q", text, n, whole.Text(), alone.Text())
			}
		}
	}
}

// TestNilExpr: a nil expression tells zero values; so does one that was not read.
func TestNilExpr(t *testing.T) {
	for _, e := range []*arith.Expr{nil, {}} {
		if e.Text() != "" || len(e.Names()) != 0 || e.Size() != 0 || !alike(e.Tree(), api.Arith{}) {
			t.Errorf("%q, %q, %d, %+v", e.Text(), e.Names(), e.Size(), e.Tree())
		}
	}
	if e, err := arith.Parse(nil); e != nil || err == nil {
		t.Error("nil is an expression")
	}
}

// TestManyAtOnce: two calls at one time are as one behind the other.
func TestManyAtOnce(t *testing.T) {
	shared := parse(t, "a=b?c+1:d*(e-2)")
	var all sync.WaitGroup
	for i := range 8 {
		all.Go(func() {
			text := strings.Repeat("-", i) + "x" + scan.Text(int64(i))
			for range 200 {
				e, err := arith.Parse([]byte(text))
				if err != nil || e.Size() != i+1 || shared.Text() != "(= a (? b (+ c 1) (* d (- e 2))))" || len(shared.Names()) != 5 || shared.Tree().APos != 1 {
					t.Errorf("%q: %q, %q", text, e.Text(), shared.Text())
					return
				}
			}
		})
	}
	all.Wait()
}
