package gmatch

import "math/bits"

const (
	wordBits = 64
	allBits  = ^uint64(0)
)

// places is a set of places of a subject: the place i is in it, if bit i%64 of word i/64 is 1.
type places []uint64

// noPlaces tells an empty set with room for the places of a subject of that length, its end among them.
func noPlaces(length int) places {
	return make(places, length/wordBits+1)
}

// add adds a place.
func (l places) add(place int) {
	l[place/wordBits] |= 1 << (place % wordBits)
}

// fill makes it all places from first on; last is the greatest place of the subject.
func (l places) fill(first, last int) {
	for i := first / wordBits; i < len(l); i++ {
		l[i] = allBits
	}
	l[first/wordBits] &= allBits << (first % wordBits)
	l[last/wordBits] &= allBits >> (wordBits - 1 - last%wordBits) // bits behind the end are no places
}

// has tells whether a place is in it.
func (l places) has(place int) bool {
	return l[place/wordBits]>>(place%wordBits)&1 == 1
}

// outermost tells the greatest place, or the least one; false, if there is none.
func (l places) outermost(greatest bool) (int, bool) {
	if greatest {
		return l.greatest()
	}
	return l.least()
}

// least tells the least place; false, if there is none.
func (l places) least() (int, bool) {
	for i, word := range l {
		if word != 0 {
			return i*wordBits + bits.TrailingZeros64(word), true
		}
	}
	return 0, false
}

// greatest tells the greatest place; false, if there is none.
func (l places) greatest() (int, bool) {
	for i := len(l) - 1; i >= 0; i-- {
		if l[i] != 0 {
			return i*wordBits + bits.Len64(l[i]) - 1, true
		}
	}
	return 0, false
}
