package acode_test

import (
	"slices"
	"strings"
	"testing"

	"pidgin/acode"
	"pidgin/api"
)

// wantGet: the variable has that value.
func wantGet(t *testing.T, v *acode.Vars, name, want string) {
	t.Helper()
	if got, ok := v.Get(name); got != want || !ok {
		t.Errorf("%s: %q, %v, want %q", name, got, ok, want)
	}
}

// wantUnset: the variable is unset.
func wantUnset(t *testing.T, v *acode.Vars, name string) {
	t.Helper()
	if got, ok := v.Get(name); got != "" || ok {
		t.Errorf("%s: %q, %v, want none", name, got, ok)
	}
}

// TestP4_1Set: variables are set, set again, unset.
func TestP4_1Set(t *testing.T) {
	v := acode.New()
	if v == nil || len(v.List()) != 0 {
		t.Fatal("new variables are set")
	}
	for _, name := range []string{"x", "_", "_1", "A", "aB9_", "x1", strings.Repeat("n", 5000)} {
		wantUnset(t, v, name)
		for _, value := range []string{"1", "", " ", "no number", "\x00\xff\n", "é", strings.Repeat("v", 70000), "last"} {
			if !v.Set(name, value) {
				t.Errorf("%.20s is a name", name)
			}
			wantGet(t, v, name, value)
		}
	}
	if len(v.List()) != 7 {
		t.Error("each name stands there once:", v.List())
	}
	v.Unset("x")
	wantUnset(t, v, "x")
	wantGet(t, v, "x1", "last")
	v.Unset("x")
	v.Unset("never")
	v.Unset("")
	if len(v.List()) != 6 {
		t.Error(v.List())
	}
	v.Set("x", "again")
	wantGet(t, v, "x", "again")
}

// TestP4_1Names: what is no name is not set.
func TestP4_1Names(t *testing.T) {
	v := varsOf("x=1;y=2")
	for _, name := range []string{"", "1", "1a", "9_", " x", "x ", "x y", "x\n", "x=", "x-y", "-", "$x", "x.y", "é", "xé", "x\x00", "\x00", "x\xff", "@", "[", "`", "{", "/", ":", "*"} {
		if v.Set(name, "3") {
			t.Errorf("%q is set", name)
		}
		wantUnset(t, v, name)
		v.Unset(name)
	}
	for c := range 256 {
		name := "x" + string([]byte{byte(c)})
		inside := c == '_' || '0' <= c && c <= '9' || 'a' <= c && c <= 'z' || 'A' <= c && c <= 'Z'
		if acode.New().Set(name, "") != inside {
			t.Errorf("%q: %v", name, !inside)
		}
		first := inside && (c < '0' || c > '9')
		if acode.New().Set(name[1:], "") != first {
			t.Errorf("%q: %v", name[1:], !first)
		}
	}
	if got := textOf(v); got != "x=1;y=2" {
		t.Error(got)
	}
}

// TestP4_1List: rising by names, its own memory each time.
func TestP4_1List(t *testing.T) {
	names := strings.Fields("b a10 a9 _ Z a A z a1 B aa x_ x X0")
	rising := slices.Sorted(slices.Values(names))
	for range 20 {
		v := acode.New()
		for i, name := range names {
			v.Set(name, strings.Repeat("i", i))
		}
		list := v.List()
		for i, one := range list {
			if one.Name != rising[i] || one.Value != strings.Repeat("i", slices.Index(names, one.Name)) {
				t.Fatalf("%d: %+v, want %s", i, one, rising[i])
			}
		}
		if len(list) != len(names) {
			t.Fatal(list)
		}
		names = append(names[1:], names[0])
	}
	v := varsOf("b=2;a=1;c=3")
	first := v.List()
	second := v.List()
	for i := range first {
		first[i] = api.Var{Name: "spoilt", Value: "spoilt"}
	}
	_ = append(first[:0], api.Var{Name: "more"})
	if want := []api.Var{{Name: "a", Value: "1"}, {Name: "b", Value: "2"}, {Name: "c", Value: "3"}}; !slices.Equal(second, want) || !slices.Equal(v.List(), want) {
		t.Error("lists share memory:", second, v.List())
	}
	v.Set("a", "9")
	v.Unset("b")
	if second[0].Value != "1" || len(second) != 3 || textOf(v) != "a=9;c=3" {
		t.Error("a list is what was there when it was told:", second)
	}
}

// TestP4_1Copy: a copy is set as the other was, and goes its own way.
func TestP4_1Copy(t *testing.T) {
	v := varsOf("a=1;b=2")
	w := v.Copy()
	if textOf(w) != "a=1;b=2" || v == w {
		t.Fatal(textOf(w))
	}
	v.Set("a", "v")
	v.Unset("b")
	v.Set("new", "v")
	if textOf(w) != "a=1;b=2" {
		t.Error("what is done to the other is done to the copy:", textOf(w))
	}
	w.Set("b", "w")
	w.Unset("a")
	if _, err := acode.Eval([]byte("c = 3"), w); err != nil || textOf(v) != "a=v;new=v" || textOf(w) != "b=w;c=3" {
		t.Error("what is done to the copy is done to the other:", textOf(v), textOf(w))
	}
	empty := acode.New()
	other := empty.Copy()
	if other == nil || !other.Set("x", "1") || len(empty.List()) != 0 || !empty.Set("y", "2") || textOf(other) != "x=1" {
		t.Error("a copy of no variables:", textOf(empty), textOf(other))
	}
}

// TestP4_1Nil: nil variables tell zero values; those that New did not tell are as those it tells.
func TestP4_1Nil(t *testing.T) {
	var none *acode.Vars
	if none.Set("x", "1") || none.Set("", "") || len(none.List()) != 0 || none.Copy() != nil {
		t.Error("nil")
	}
	none.Unset("x")
	wantUnset(t, none, "x")
	var zero acode.Vars
	zero.Unset("x")
	wantUnset(t, &zero, "x")
	if len(zero.List()) != 0 || len(zero.Copy().List()) != 0 || !zero.Set("x", "1") || textOf(&zero) != "x=1" {
		t.Error("zero")
	}
	var counted acode.Vars
	if n, err := acode.Eval([]byte("x = x + 1"), &counted); n != 1 || err != nil || textOf(&counted) != "x=1" {
		t.Error("zero, by Eval:", n, err, textOf(&counted))
	}
}
