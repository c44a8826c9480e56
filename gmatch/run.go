package gmatch

import (
	"math/bits"

	"pidgin/api"
	"pidgin/set"
)

// run goes through the pieces of a pattern, with all places up to which they match the subject from its beginning. No place is in a set twice, so no byte is compared with a piece twice.
type run struct {
	subject   []byte
	now, next places
	steps     int
}

// endsOf tells the places up to which the pieces match s from 0, and how often a byte was compared with a piece.
func endsOf(pieces []api.Piece, s []byte) (places, int) {
	r := &run{subject: s, now: noPlaces(len(s)), next: noPlaces(len(s))}
	r.now.add(0)
	for _, piece := range pieces {
		first, ok := r.now.least()
		if !ok {
			break
		}
		clear(r.next)
		if piece.Kind == api.GMany {
			r.next.fill(first, len(s))
		} else {
			r.compare(piece)
		}
		r.now, r.next = r.next, r.now
	}
	return r.now, r.steps
}

// compare goes on behind each byte that the piece takes.
func (r *run) compare(piece api.Piece) {
	for i, word := range r.now {
		for ; word != 0; word &= word - 1 {
			place := i*wordBits + bits.TrailingZeros64(word)
			if place == len(r.subject) { // no byte stands there
				return
			}
			r.steps++
			if piece.Kind == api.GOne || set.Has(piece.Set, r.subject[place]) {
				r.next.add(place + 1)
			}
		}
	}
}

// isMatch tells whether the pieces match s from 0 to the end.
func isMatch(pieces []api.Piece, s []byte) bool {
	ends, _ := endsOf(pieces, s)
	return ends.has(len(s))
}
