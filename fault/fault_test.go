package fault_test

import (
	"errors"
	"fmt"
	"math"
	"strings"
	"sync"
	"testing"

	"pidgin/api"
	"pidgin/fault"
)

// codes tells every code that has an error.
func codes() []int {
	return []int{
		api.CodeArg, api.CodeLong, api.CodeSyntax, api.CodeDeep, api.CodeMany, api.CodeNumber, api.CodeRange,
		api.CodeBracket, api.CodeGroup, api.CodeEscape, api.CodeStates, api.CodeDivide, api.CodeValue, api.CodeOperand,
		api.CodeName, api.CodeFile, api.CodeDir, api.CodeExists, api.CodeFull, api.CodeLabel, api.CodeFuel,
	}
}

// noCodes tells numbers that are the code of no error.
func noCodes() []int {
	return []int{math.MinInt, math.MinInt32, -22, -2, -1, api.CodeNone, api.CodeOther, 23, 24, 44, 256, 257, 1 << 32, 1<<32 + 3, math.MaxInt}
}

// anyNumbers tells numbers that a place or a language may be.
func anyNumbers() []int {
	return []int{math.MinInt, math.MinInt32 - 1, -12, -1, 0, 1, 2, 11, 12, 255, 256, 1 << 32, math.MaxInt}
}

func wantTold(t *testing.T, err error, want api.Fault) {
	t.Helper()
	if got := fault.Tell(err); got != want {
		t.Errorf("Tell: %+v, want %+v", got, want)
	}
}

// TestP1_1: Of has one error a code, and none of other numbers.
func TestP1_1(t *testing.T) {
	if n := len(codes()); n != 21 || codes()[0] != 1 || codes()[n-1] != 21 {
		t.Fatal("codes are 1 to 21:", codes())
	}
	for i, code := range codes() {
		e := fault.Of(code)
		if code != i+1 || e == nil {
			t.Fatalf("Of(%d): %v", code, e)
		}
		if e != fault.Of(code) {
			t.Errorf("Of(%d): two calls tell two errors", code)
		}
		if e.Error() == "" {
			t.Errorf("Of(%d): says nothing", code)
		}
		for _, other := range codes() {
			if same := e == fault.Of(other); same != (code == other) {
				t.Errorf("Of(%d) == Of(%d): %v", code, other, same)
			}
			if is := errors.Is(e, fault.Of(other)); is != (code == other) {
				t.Errorf("errors.Is(Of(%d), Of(%d)): %v", code, other, is)
			}
		}
	}
	for _, n := range noCodes() {
		if e := fault.Of(n); e != nil {
			t.Errorf("Of(%d): %v", n, e)
		}
	}
}

// TestP1_2: At and In wrap, and know any number.
func TestP1_2(t *testing.T) {
	for _, bottom := range []error{fault.Of(api.CodeArg), fault.Of(api.CodeFuel), errors.New("elsewhere")} {
		for _, n := range anyNumbers() {
			at, in := fault.At(bottom, n), fault.In(bottom, n)
			if errors.Unwrap(at) != bottom || errors.Unwrap(in) != bottom {
				t.Errorf("%v, %d: what is wrapped is not what was given", bottom, n)
			}
			if !errors.Is(at, bottom) || !errors.Is(in, bottom) {
				t.Errorf("%v, %d: errors.Is does not hold", bottom, n)
			}
			if got := fault.Tell(at); got.Pos != n || got.Lang != 0 {
				t.Errorf("At(%v, %d): %+v", bottom, n, got)
			}
			if got := fault.Tell(in); got.Lang != n || got.Pos != 0 {
				t.Errorf("In(%v, %d): %+v", bottom, n, got)
			}
		}
	}
	for _, n := range anyNumbers() {
		if e := fault.At(nil, n); e != nil {
			t.Errorf("At(nil, %d): %v", n, e)
		}
		if e := fault.In(nil, n); e != nil {
			t.Errorf("In(nil, %d): %v", n, e)
		}
		if e := fault.In(fault.At(fault.Of(api.CodeOther), n), n); e != nil {
			t.Errorf("of no code, wrapped twice: %v", e)
		}
	}
}

// TestP1_2Keeps: wrapping leaves alone what is wrapped.
func TestP1_2Keeps(t *testing.T) {
	inner := fault.In(fault.At(fault.Of(api.CodeMany), 4), 6)
	fault.In(fault.At(inner, 9), 9)
	wantTold(t, inner, api.Fault{Code: api.CodeMany, Pos: 4, Lang: 6})
	wantTold(t, fault.Of(api.CodeMany), api.Fault{Code: api.CodeMany})
}

// TestP1_3: Is asks for one code, through all that wraps.
func TestP1_3(t *testing.T) {
	for _, code := range codes() {
		e := fault.Of(code)
		for i, err := range []error{
			e, fault.At(e, 3), fault.In(e, 3), fault.In(fault.At(e, -1), -1), fault.At(fault.In(fault.At(e, 1), 2), 3),
			fmt.Errorf("around: %w", fault.At(e, 3)), errors.Join(errors.New("elsewhere"), fault.In(e, 3)),
		} {
			for _, asked := range append(codes(), noCodes()...) {
				if is := fault.Is(err, asked); is != (asked == code) {
					t.Errorf("%d: Is(%v, %d): %v", i, err, asked, is)
				}
			}
		}
	}
	both := errors.Join(fault.Of(api.CodeFuel), fault.Of(api.CodeName))
	if !fault.Is(both, api.CodeFuel) || !fault.Is(both, api.CodeName) || fault.Is(both, api.CodeFull) {
		t.Error("joined errors: each code of both, and none beside")
	}
}

// TestP1_3Nothing: Is does not hold of nil, nor of an error from elsewhere, whatever is asked.
func TestP1_3Nothing(t *testing.T) {
	elsewhere := errors.New("syntax")
	for _, asked := range append(codes(), noCodes()...) {
		if fault.Is(nil, asked) {
			t.Errorf("Is(nil, %d)", asked)
		}
		if fault.Is(elsewhere, asked) || fault.Is(fault.At(elsewhere, asked), asked) || fault.Is(fault.In(elsewhere, asked), asked) {
			t.Errorf("Is(an error from elsewhere, %d)", asked)
		}
	}
}

// TestP1_4: the outermost place, the outermost language, the least code.
func TestP1_4(t *testing.T) {
	e, later := fault.Of(api.CodeSyntax), fault.Of(api.CodeDivide)
	for name, c := range map[string]struct {
		err  error
		want api.Fault
	}{
		"nil":                 {nil, api.Fault{}},
		"bottom":              {e, api.Fault{Code: 3}},
		"the example":         {fault.At(e, 5), api.Fault{Code: 3, Pos: 5}},
		"language alone":      {fault.In(e, 5), api.Fault{Code: 3, Lang: 5}},
		"place of 0 outside":  {fault.At(fault.At(e, 7), 0), api.Fault{Code: 3}},
		"language of 0":       {fault.In(fault.In(e, 7), 0), api.Fault{Code: 3}},
		"place below 0":       {fault.At(e, math.MinInt), api.Fault{Code: 3, Pos: math.MinInt}},
		"language below 0":    {fault.In(e, -1), api.Fault{Code: 3, Lang: -1}},
		"in turns":            {fault.In(fault.At(fault.In(fault.At(e, 1), 2), 3), 4), api.Fault{Code: 3, Pos: 3, Lang: 4}},
		"place further in":    {fault.In(fault.In(fault.At(e, 8), 2), 9), api.Fault{Code: 3, Pos: 8, Lang: 9}},
		"language further in": {fault.At(fault.At(fault.In(e, 8), 2), 9), api.Fault{Code: 3, Pos: 9, Lang: 8}},
		"another's wrapper":   {fmt.Errorf("around: %w", fault.At(fault.In(e, 4), 6)), api.Fault{Code: 3, Pos: 6, Lang: 4}},
		"between wrappers":    {fault.In(fmt.Errorf("around: %w", fault.At(e, 6)), 4), api.Fault{Code: 3, Pos: 6, Lang: 4}},
		"least code, behind":  {errors.Join(fault.At(later, 1), fault.At(e, 2)), api.Fault{Code: 3, Pos: 1}},
		"least code, ahead":   {errors.Join(fault.In(e, 2), fault.In(later, 1)), api.Fault{Code: 3, Lang: 2}},
		"first of the joined": {errors.Join(later, fault.In(errors.New("x"), 5), fault.At(later, 6)), api.Fault{Code: 12, Pos: 6, Lang: 5}},
		"elsewhere":           {errors.New("elsewhere"), api.Fault{Code: 22}},
	} {
		t.Run(name, func(t *testing.T) { wantTold(t, c.err, c.want) })
	}
	for _, code := range codes() {
		wantTold(t, fault.Of(code), api.Fault{Code: code})
	}
}

// TestP1_5: the words of languages and codes.
func TestP1_5(t *testing.T) {
	langs := strings.Fields("pidgin arith glob bre ere printf test expr sed find sh kern")
	words := strings.Fields("none argument long syntax deep many number range bracket group escape states divide value operand name file dir exists full label fuel other")
	if len(langs) != 12 || len(words) != 23 {
		t.Fatal(len(langs), len(words))
	}
	for lang, l := range langs {
		for code, w := range words {
			if got, want := fault.Text(api.Fault{Code: code, Pos: 7, Lang: lang}), l+":7: "+w; got != want {
				t.Errorf("%q, want %q", got, want)
			}
		}
	}
	for _, n := range []int{math.MinInt, -1, 12, 23, 1 << 32, math.MaxInt} {
		if got := fault.Text(api.Fault{Lang: n}); got != "?:0: none" {
			t.Errorf("language %d: %q", n, got)
		}
	}
	for _, n := range []int{math.MinInt, -1, 23, 1<<32 + 1, math.MaxInt} {
		if got := fault.Text(api.Fault{Code: n}); got != "pidgin:0: ?" {
			t.Errorf("code %d: %q", n, got)
		}
	}
	for want, f := range map[string]api.Fault{
		"arith:5: syntax":                   {Code: 3, Pos: 5, Lang: 1},
		"pidgin:0: none":                    {},
		"?:-1: ?":                           {Code: -1, Pos: -1, Lang: -1},
		"sh:-9223372036854775808: fuel":     {Code: 21, Pos: math.MinInt, Lang: 10},
		"kern:9223372036854775807: operand": {Code: 14, Pos: math.MaxInt, Lang: 11},
	} {
		if got := fault.Text(f); got != want {
			t.Errorf("%q, want %q", got, want)
		}
	}
}

// TestP1_6: what wraps says the code of what it wraps; the outermost place and language stand in either order.
func TestP1_6(t *testing.T) {
	for _, code := range codes() {
		e := fault.Of(code)
		wantTold(t, fault.At(fault.At(e, 1), 2), api.Fault{Code: code, Pos: 2})
		wantTold(t, fault.In(fault.In(e, 1), 2), api.Fault{Code: code, Lang: 2})
		wantTold(t, fault.In(fault.At(e, 1), 3), api.Fault{Code: code, Pos: 1, Lang: 3})
		wantTold(t, fault.At(fault.In(e, 3), 1), api.Fault{Code: code, Pos: 1, Lang: 3})
		for _, err := range []error{fault.At(e, 0), fault.In(e, 0), fault.At(fault.In(e, -1), -1), fault.In(fault.At(e, 99), 99)} {
			if err.Error() == "" {
				t.Errorf("code %d: says nothing", code)
			}
		}
	}
}

// TestP1_6Deep: the same holds of errors wrapped as often as the document's bound allows.
func TestP1_6Deep(t *testing.T) {
	err := fault.Of(api.CodeDeep)
	for i := range 1 << 15 {
		err = fault.In(fault.At(err, i), -i)
	}
	wantTold(t, err, api.Fault{Code: api.CodeDeep, Pos: 1<<15 - 1, Lang: 1 - 1<<15})
	if !fault.Is(err, api.CodeDeep) || fault.Is(err, api.CodeArg) || err.Error() == "" {
		t.Error("an error wrapped many times over")
	}
}

// TestP1_7: errors from elsewhere are others, with the place and language that are put around them.
func TestP1_7(t *testing.T) {
	for _, e := range []error{errors.New("syntax"), errors.New(""), fmt.Errorf("around: %w", errors.New("in")), errors.Join(errors.New("a"), errors.New("b")), list{1, 2}, (*absent)(nil)} {
		wantTold(t, e, api.Fault{Code: 22})
		wantTold(t, fault.At(e, 4), api.Fault{Code: 22, Pos: 4})
		wantTold(t, fault.In(e, 2), api.Fault{Code: 22, Lang: 2})
		wantTold(t, fault.At(fault.In(e, 2), 4), api.Fault{Code: 22, Pos: 4, Lang: 2})
		wantTold(t, fault.In(fault.At(e, 4), 2), api.Fault{Code: 22, Pos: 4, Lang: 2})
		if fault.At(e, 0).Error() == "" || fault.In(e, 0).Error() == "" {
			t.Error("an error that wraps one from elsewhere says nothing")
		}
	}
}

// list is an error that can't be held against another by ==.
type list []int

func (list) Error() string { return "list" }

// absent is an error that is there as a nil pointer.
type absent struct{}

func (*absent) Error() string { return "absent" }

// breaker is an error all of whose methods panic.
type breaker struct{}

func (breaker) Error() string { panic("Error") }
func (breaker) Is(error) bool { panic("Is") }
func (breaker) As(any) bool   { panic("As") }
func (breaker) Unwrap() error { panic("Unwrap") }

// liar is an error that says it is whatever it is asked for, and hands over nothing.
type liar struct{}

func (liar) Error() string { return "liar" }
func (liar) Is(error) bool { return true }
func (liar) As(any) bool   { return true }

// TestWrongErrors: errors whose own methods break or lie bring no call to a panic.
func TestWrongErrors(t *testing.T) {
	wantTold(t, breaker{}, api.Fault{Code: 22})
	wantTold(t, fault.In(fault.At(breaker{}, 4), 2), api.Fault{Code: 22, Pos: 4, Lang: 2})
	wantTold(t, fault.At(breaker{}, 4), api.Fault{Code: 22, Pos: 4})
	wantTold(t, liar{}, api.Fault{Code: 1})
	wantTold(t, fault.At(liar{}, 4), api.Fault{Code: 1, Pos: 4})
	wantTold(t, fault.In(liar{}, 2), api.Fault{Code: 1, Lang: 2})
	if fault.Is(breaker{}, api.CodeArg) || fault.Is(fault.At(breaker{}, 1), api.CodeArg) || !fault.Is(liar{}, api.CodeFuel) || fault.Is(liar{}, api.CodeOther) {
		t.Error("Is of wrong errors")
	}
	if fault.At(breaker{}, 1).Error() == "" || fault.In(breaker{}, 1).Error() == "" {
		t.Error("an error that wraps a wrong one says nothing")
	}
}

// TestAtOneTime: calls at one time tell what they tell one behind the other.
func TestAtOneTime(t *testing.T) {
	shared := fault.At(fault.Of(api.CodeFile), 1)
	var all sync.WaitGroup
	for i := range 8 {
		all.Go(func() {
			for k := range 200 {
				if got := fault.Tell(fault.In(fault.At(shared, k), i)); got != (api.Fault{Code: api.CodeFile, Pos: k, Lang: i}) {
					t.Errorf("%d, %d: %+v", i, k, got)
				}
			}
		})
	}
	all.Wait()
	wantTold(t, shared, api.Fault{Code: api.CodeFile, Pos: 1})
}
