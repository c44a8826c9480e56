package automaton_test

import (
	"testing"

	"pidgin/api"
	"pidgin/automaton"
	"pidgin/retext"
)

// graphOf tells the automaton of an extended expression.
func graphOf(t *testing.T, text string) *automaton.Graph {
	t.Helper()
	r, err := retext.Parse([]byte(text), true)
	if err != nil {
		t.Fatal(text, err)
	}
	return automaton.Of(r.Tree())
}

// TestOnce: a state is in a set once, in however many ways it is reached.
func TestOnce(t *testing.T) {
	for _, text := range []string{"(a*)*", "(a|a|b*)*", "(a?){50}", "(^|$|a{0})*", "a{0}*"} {
		g := graphOf(t, text)
		now, next := g.NewSet(), g.NewSet()
		for at := range 4 {
			p := automaton.PlaceOf(at, 3)
			now.Enter(p)
			states := now.Len()
			now.Enter(p)
			if states < 1 || states > g.Len() || now.Len() != states {
				t.Errorf("%s: %d of %d states, then %d", text, states, g.Len(), now.Len())
			}
			next.Follow(now, 'a', automaton.PlaceOf(at+1, 3))
			now, next = next, now
		}
	}
}

// TestFollow: a set has what is reached from the one before alone, whatever it had.
func TestFollow(t *testing.T) {
	g := graphOf(t, "ab|cd$")
	start, now, end := g.NewSet(), g.NewSet(), g.NewSet()
	start.Enter(automaton.PlaceOf(0, 2))
	for range 2 {
		for s, want := range map[string]bool{"ab": true, "cd": true, "ad": false, "cb": false, "xb": false} {
			now.Follow(start, s[0], automaton.PlaceOf(1, 2))
			end.Follow(now, s[1], automaton.PlaceOf(2, 2))
			if end.Accepts() != want || start.Accepts() || now.Accepts() || now.Len() > 1 {
				t.Errorf("%s: %v, %d states between", s, end.Accepts(), now.Len())
			}
		}
	}
	now.Follow(start, 'x', automaton.PlaceOf(1, 2))
	if now.Len() != 0 || now.Accepts() {
		t.Error("states are left behind a byte that none takes")
	}
}

// TestPlaces: the beginning and the end are places of their own, or one.
func TestPlaces(t *testing.T) {
	for at, want := range []automaton.Place{{Begin: true}, {}, {End: true}} {
		if got := automaton.PlaceOf(at, 2); got != want {
			t.Errorf("%d of 2: %v", at, got)
		}
	}
	if got := automaton.PlaceOf(0, 0); !got.Begin || !got.End {
		t.Errorf("0 of 0: %v", got)
	}
}

// TestEmpty: a graph that is none has no states; one of an expression has one at least.
func TestEmpty(t *testing.T) {
	var none *automaton.Graph
	if none.Len() != 0 || new(automaton.Graph).Len() != 0 {
		t.Error("states of nothing")
	}
	if got := automaton.Of(api.Re{Kind: api.ReRep, Kids: []api.Re{{Kind: api.ReEnd}}}).Len(); got != 1 {
		t.Error("a part that stands no times takes states:", got)
	}
}

// TestSteps: what is reached without a byte is handed on once; what takes a byte goes on by the bytes of its set alone.
func TestSteps(t *testing.T) {
	g := graphOf(t, "([a-c]*|^)*")
	counts := make([]int, g.Len())
	g.Reach(g.Start(), automaton.PlaceOf(0, 1), func(at int) bool {
		counts[at]++
		return counts[at] == 1
	})
	takes, eaters := 0, 0
	for at, count := range counts {
		if g.Eats(at) {
			eaters++
		}
		if count == 0 {
			t.Errorf("%d of %d is not reached", at, g.Len())
		}
		for b := range 256 {
			next, ok := g.Take(at, byte(b))
			if ok && (b < 'a' || b > 'c') || !ok && next != 0 || ok && !g.Eats(at) {
				t.Errorf("%d goes on to %d by %d: %v", at, next, b, ok)
			}
			if ok {
				takes++
			}
		}
	}
	if takes != 3 || eaters != 1 || counts[0] == 0 || !automaton.Accepts(0) || g.Eats(0) {
		t.Errorf("%d bytes are taken by %d; handed on: %v", takes, eaters, counts)
	}
}
