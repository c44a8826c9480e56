package span

// bits is how many places a word tells of.
const bits = 64

// page tells of some places, a bit each, whether they are in a set.
type page [8]uint64

// pageLen is how many places a page tells of.
const pageLen = bits * len(page{})

// places is a set of places, none of them ahead of low.
type places struct {
	low   int
	pages []page
}

// placesOf tells a set for the places from low to high that has none.
func placesOf(low, high int) *places {
	return &places{low: low, pages: make([]page, (high-low)/pageLen+1)}
}

// put puts in a place.
func (p *places) put(at int) {
	at -= p.low
	p.pages[at/pageLen][at%pageLen/bits] |= 1 << (at % bits)
}

// has tells whether a place is in it.
func (p *places) has(at int) bool {
	at -= p.low
	return p.pages[at/pageLen][at%pageLen/bits]>>(at%bits)&1 == 1
}

// only tells a set, of the places from low on, that has high alone.
func only(low, high int) *places {
	p := placesOf(low, high)
	p.put(high)
	return p
}
