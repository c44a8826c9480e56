package acode_test

import (
	"strings"
	"testing"

	"pidgin/acode"
	"pidgin/api"
	"pidgin/arith"
	"pidgin/fault"
)

// varsOf tells the variables that a text like "x=1;y= 2 " sets.
func varsOf(given string) *acode.Vars {
	v := acode.New()
	for one := range strings.SplitSeq(given, ";") {
		if name, value, ok := strings.Cut(one, "="); ok {
			v.Set(name, value)
		}
	}
	return v
}

// textOf tells variables as such a text.
func textOf(v *acode.Vars) string {
	var all []string
	for _, one := range v.List() {
		all = append(all, one.Name+"="+one.Value)
	}
	return strings.Join(all, ";")
}

// codeOf tells the code of a text that is an expression.
func codeOf(t *testing.T, text string) *acode.Code {
	t.Helper()
	e, err := arith.Parse([]byte(text))
	if err != nil {
		t.Fatalf("%.60q: %s", text, fault.Text(fault.Tell(err)))
	}
	return acode.Compile(e)
}

// steps tells how many instructions a run goes through, and holds that it leaves the variables alone and stays within Len.
func steps(t *testing.T, text string, v *acode.Vars) int {
	t.Helper()
	code, before := codeOf(t, text), textOf(v)
	n := code.Steps(v)
	if n < 1 || n > code.Len() {
		t.Errorf("%.60q: %d steps of %d instructions", text, n, code.Len())
	}
	if after := textOf(v); after != before {
		t.Errorf("%.60q: Steps leaves %q, want %q", text, after, before)
	}
	if again := code.Steps(v); again != n {
		t.Errorf("%.60q: %d steps, then %d", text, n, again)
	}
	return n
}

// wantRun: with the given variables the text has that value, and the variables are so then.
func wantRun(t *testing.T, text, given string, want int64, then string) {
	t.Helper()
	steps(t, text, varsOf(given))
	ran, evaluated := varsOf(given), varsOf(given)
	got, err := codeOf(t, text).Run(ran)
	if err != nil || got != want || textOf(ran) != then {
		t.Errorf("%.60q of %q: %d, %v, then %q, want %d, then %q", text, given, got, err, textOf(ran), want, then)
	}
	got, err = acode.Eval([]byte(text), evaluated)
	if err != nil || got != want || textOf(evaluated) != then {
		t.Errorf("%.60q of %q by Eval: %d, %v, then %q, want %d, then %q", text, given, got, err, textOf(evaluated), want, then)
	}
}

// wantValue: that, where the variables stay as they are.
func wantValue(t *testing.T, text, given string, want int64) {
	t.Helper()
	wantRun(t, text, given, want, textOf(varsOf(given)))
}

// wantFault: with the given variables running meets that error, and the variables stay as they are.
func wantFault(t *testing.T, text, given string, code, pos int) {
	t.Helper()
	steps(t, text, varsOf(given))
	want := api.Fault{Code: code, Pos: pos, Lang: api.LangArith}
	v := varsOf(given)
	before := textOf(v)
	got, err := codeOf(t, text).Run(v)
	if got != 0 || fault.Tell(err) != want || textOf(v) != before {
		t.Errorf("%.60q of %q: %d, %s, then %q, want %s", text, given, got, fault.Text(fault.Tell(err)), textOf(v), fault.Text(want))
	}
	got, err = acode.Eval([]byte(text), v)
	if got != 0 || fault.Tell(err) != want || textOf(v) != before {
		t.Errorf("%.60q of %q by Eval: %d, %s, then %q, want %s", text, given, got, fault.Text(fault.Tell(err)), textOf(v), fault.Text(want))
	}
}
