package set

import "pidgin/api"

// Class tells the set of the class of that name; false, if there is none.
func Class(name string) (api.Set, bool) {
	s := named(name)
	return s, s != api.Set{} // no class is empty
}

// named tells the set of a class, or the empty set.
func named(name string) api.Set {
	var s api.Set
	switch name {
	case "alnum":
		s = named("digit")
		fallthrough
	case "alpha":
		s = Union(s, named("upper"))
		fallthrough
	case "lower":
		return Union(s, Range('a', 'z'))
	case "upper":
		return Range('A', 'Z')
	case "xdigit":
		s = Union(Range('a', 'f'), Range('A', 'F'))
		fallthrough
	case "digit":
		return Union(s, Range('0', '9'))
	case "space":
		s = Range('\n', '\r')
		fallthrough
	case "blank":
		return Union(s, Of(" \t"))
	case "print":
		s = Of(" ")
		fallthrough
	case "graph":
		return Union(s, Range('!', '~'))
	case "punct":
		return without(named("graph"), named("alnum"))
	case "cntrl":
		return Union(Range(0, 31), Of("\x7f"))
	}
	return s
}
