package subst

import (
	"iter"

	"pidgin/api"
	"pidgin/retext"
	"pidgin/span"
)

// matches hands on the spans of each match that a global replacement finds, from the left: of an expression that has an automaton.
func matches(r *retext.Re, s []byte) iter.Seq[[]api.Span] {
	return func(yield func(spans []api.Span) bool) {
		from, last := 0, -1 // where the next search starts, and where the last match ended
		for {
			spans, ok, _ := span.Find(r, s, from)
			switch {
			case !ok:
				return
			case spans[0] == api.Span{Start: last, End: last}:
				from = last + 1
			case !yield(spans):
				return
			default:
				last = spans[0].End
				from = last
			}
		}
	}
}
