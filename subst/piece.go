package subst

import (
	"strconv"
	"strings"

	"pidgin/api"
)

// What a piece may be beside a group's.
const (
	own   = -1 // bytes that stand in the template
	match = 0  // the whole match
)

// piece is a part of a template.
type piece struct {
	group int    // the group whose piece of the subject is put in; or match, or own
	bytes []byte // of own ones: as many as stand side by side
}

// in tells the bytes that a piece puts in for a match of s.
func (p piece) in(s []byte, spans []api.Span) []byte {
	if p.group == own {
		return p.bytes
	}
	if p.group >= len(spans) {
		return nil
	}
	at := spans[p.group]
	if at.Start < 0 || at.End < at.Start || at.End > len(s) {
		return nil
	}
	return s[at.Start:at.End]
}

// text writes a piece.
func (p piece) text() string {
	switch p.group {
	case own:
		return hex(p.bytes)
	case match:
		return "&"
	}
	return `\` + strconv.Itoa(p.group)
}

// hex writes bytes between quotes, each with two digits to the base 16.
func hex(bytes []byte) string {
	const digits = "0123456789abcdef"
	var text strings.Builder
	text.WriteByte('"')
	for _, b := range bytes {
		text.WriteByte(digits[b/16])
		text.WriteByte(digits[b%16])
	}
	text.WriteByte('"')
	return text.String()
}
