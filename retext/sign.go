package retext

import (
	"pidgin/api"
	"pidgin/scan"
	"pidgin/set"
)

// kind is what a sign does.
type kind int

const (
	item    kind = iota // it is a part of the tree
	times               // it says how often the item ahead of it stands
	opening             // it opens a group
	closing             // it closes a group
	bar                 // it stands between branches
	last                // it is the end of the text
)

// endless is a greatest number of times that is none.
const endless = -1

// sign is what an expression is written with.
type sign struct {
	kind  kind
	place int
	text  string // as it stands
	re    api.Re // of an item
	least int    // of times
	most  int    // of times
	err   error  // why it may not be; where it may not stand at all, that is told instead
}

// endsBranch tells whether a branch ends ahead of the sign.
func (s sign) endsBranch() bool {
	return s.kind == closing || s.kind == bar || s.kind == last
}

// signs tells a call that reads b sign by sign, and the end again and again. Behind a sign with an error its answers mean nothing.
func signs(b []byte, ext bool) func() sign {
	c := scan.New(b)
	return func() sign {
		s := sign{place: c.Pos(), text: nextText(c)}
		switch role(s.text, ext) {
		case "":
			s.re, s.err = literal(s, ext)
		case ".":
			s.re = setOf(anyByte())
		case "[":
			s.re, s.err = bracket(b, c, ext)
		case "^":
			s.re.Kind = api.ReBegin
		case "$":
			s.re.Kind = api.ReEnd
		case "+":
			s.least = 1
			fallthrough
		case "*":
			s.kind, s.most = times, endless
		case "?":
			s.kind, s.most = times, 1
		case "{":
			s.kind = times
			var ok bool
			if s.least, s.most, ok = interval(c, ext); !ok {
				s.err = refuse(api.CodeRange, s.place)
			}
		case "(":
			s.kind = opening
		case ")":
			s.kind = closing
		case "|":
			s.kind = bar
		case "end":
			s.kind = last
		}
		return s
	}
}

// nextText takes a byte, a backslash together with what stands behind it; nothing at the end.
func nextText(c *scan.Cursor) string {
	b, ok := c.Next()
	if !ok {
		return ""
	}
	if behind, ok := c.Next(); ok {
		if b == '\\' {
			return string([]byte{b, behind})
		}
		c.Back(1)
	}
	return string([]byte{b})
}

// role tells what a text does as a sign, by how the extended grammar writes the sign (the end of all: end); nothing, if it is just a byte, quoted or not.
func role(text string, ext bool) string {
	switch text {
	case "":
		return "end"
	case `\(`, `\)`, `\{`:
		if !ext {
			return text[1:]
		}
	case "(", ")", "{", "+", "?", "|":
		if ext {
			return text
		}
	case ".", "[", "^", "$", "*":
		return text
	}
	return ""
}

// literal tells the byte that a sign is, which is quoted or not.
func literal(s sign, ext bool) (api.Re, error) {
	switch {
	case s.text[0] != '\\':
		return setOf(set.Of(s.text)), nil
	case s.text == `\n`:
		return setOf(set.Of("\n")), nil
	case s.text == `\}` && !ext:
		return api.Re{}, refuse(api.CodeSyntax, s.place)
	case len(s.text) > 1 && mayQuote(s.text[1], ext):
		return setOf(set.Of(s.text[1:])), nil
	}
	return api.Re{}, refuse(api.CodeEscape, s.place)
}

// mayQuote tells whether a backslash ahead of b makes it just a byte.
func mayQuote(b byte, ext bool) bool {
	switch b {
	case '(', ')', '+', '?', '{', '}', '|':
		if !ext {
			return false
		}
		fallthrough
	case '.', '[', ']', '*', '^', '$', '/', '\\':
		return true
	}
	return false
}

// bracket reads a bracket expression of b from behind its [ on, where the cursor over b stands.
func bracket(b []byte, c *scan.Cursor, ext bool) (api.Re, error) {
	s, end, err := set.Bracket(b, c.Pos(), langOf(ext))
	for c.Pos() < end {
		c.Next()
	}
	return setOf(s), err
}

// interval reads the numbers of an interval and what closes it.
func interval(c *scan.Cursor, ext bool) (least, most int, ok bool) {
	end := `\}`
	if ext {
		end = "}"
	}
	least, ok = number(c)
	switch {
	case !ok:
		return 0, 0, false
	case c.Take(end):
		return least, least, true
	case !c.Take(","):
		return 0, 0, false
	case c.Take(end):
		return least, endless, true
	}
	most, ok = number(c)
	return least, most, ok && least <= most && c.Take(end)
}

// number reads a number of an interval.
func number(c *scan.Cursor) (int, bool) {
	const mostDigits = 3
	digits := c.While("0123456789")
	value, ok := scan.Whole(string(digits))
	return int(value), ok && len(digits) <= mostDigits && value <= api.MaxTimes
}

func setOf(s api.Set) api.Re {
	return api.Re{Kind: api.ReSet, Set: s}
}
