package dfa

import "pidgin/api"

// cache holds states in slots, as many as it has room for.
//
// A state's number tells its slot, and how often that was filled: so an arrow to a state that was thrown out leads to none, and need not be looked for when that happens.
type cache struct {
	room    int
	numbers map[string]int // of each set that is held the number of its state
	states  []state
	arrows  [][256]int // of each slot, by the byte, the number of the state that it leads to; 0, where that was not made
	uses    int
	built   int // arrows that were made, all in all
	evicted int // states that were thrown out
}

// state is a set of the automaton's states: see set.go.
type state struct {
	set    string
	number int
	used   int // how many uses there had been when it was used last
}

func newCache(room int) *cache {
	return &cache{room: room, numbers: map[string]int{}}
}

// find tells in which slot the state of a number is held, if it still is.
func (c *cache) find(number int) (slot int, ok bool) {
	if number == 0 {
		return 0, false
	}
	slot = slotOf(number)
	if c.states[slot].number != number {
		return 0, false
	}
	return slot, true
}

// slotOf tells in which slot the state of a number is, or was.
func slotOf(number int) int {
	return number % api.MaxCache
}

// use tells the signs of the state in a slot, which is used by that.
func (c *cache) use(slot int) byte {
	c.uses++
	c.states[slot].used = c.uses
	return c.states[slot].set[0]
}

// lead builds the arrow from the state in a slot, by a byte, to the state of a number.
func (c *cache) lead(from int, b byte, to int) {
	c.arrows[from][b] = to
	c.built++
}

// hold tells the number and the slot of the state of a set, which it puts in unless it is held.
func (c *cache) hold(set string) (number, slot int) {
	number, ok := c.numbers[set]
	if !ok {
		number = c.put(set)
		c.numbers[set] = number
	}
	return number, slotOf(number)
}

// put puts a state in a slot of its own, as long as there is one, or else in the place of the one that was used longest ago. That is not the one from which a call goes on, which was used last: there is room for two.
func (c *cache) put(set string) int {
	slot := len(c.states)
	number := api.MaxCache + slot // none is 0
	if slot < c.room {
		c.states = append(c.states, state{})
		c.arrows = append(c.arrows, [256]int{})
	} else {
		slot = c.oldest()
		number = c.states[slot].number + api.MaxCache
		delete(c.numbers, c.states[slot].set)
		c.arrows[slot] = [256]int{}
		c.evicted++
	}
	c.states[slot] = state{set: set, number: number, used: c.uses}
	return number
}

// oldest tells in which slot the state is that was used longest ago.
func (c *cache) oldest() int {
	oldest := 0
	for slot := range c.states {
		if c.states[slot].used < c.states[oldest].used {
			oldest = slot
		}
	}
	return oldest
}
