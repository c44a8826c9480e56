package subst

import "pidgin/api"

// space is a text that is put together. It has room for no more than MaxSpace bytes.
type space struct {
	bytes []byte
	over  bool // something was cut off
}

// put appends bytes, as many as there is room for.
func (s *space) put(more []byte) {
	if room := api.MaxSpace - len(s.bytes); len(more) > room {
		s.over = true
		more = more[:room]
	}
	s.bytes = append(s.bytes, more...)
}
