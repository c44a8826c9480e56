package shape

import (
	"strings"

	"pidgin/api"
	"pidgin/scan"
)

// reader is a format while it is read.
type reader struct {
	*scan.Cursor
	parts []api.Part
}

// read tells the parts of a format.
func read(b []byte) ([]api.Part, error) {
	r := &reader{Cursor: scan.New(b)}
	for r.Left() > 0 {
		if err := r.step(); err != nil {
			return nil, err
		}
	}
	return r.parts, nil
}

// step reads an escape, a conversion, or a byte that is itself.
func (r *reader) step() error {
	switch {
	case r.Take(`\`):
		return r.escape()
	case r.Take("%%"):
		r.put('%')
	case r.Take("%"):
		return r.conversion()
	default:
		b, _ := r.Next()
		r.put(b)
	}
	return nil
}

// escape reads what stands behind a backslash.
func (r *reader) escape() error {
	place := r.Pos() - 1
	if digits := r.While("01234567"); len(digits) > 0 {
		r.put(r.octal(digits))
		return nil
	}
	b, _ := r.Next() // at the end 0, which is in no escape
	switch b {
	case 'a', 'b', 't', 'n', 'v', 'f', 'r':
		b = '\a' + byte(strings.IndexByte("abtnvfr", b)) // in this order their bytes are neighbours
		fallthrough
	case '\\':
		r.put(b)
		return nil
	}
	return refusal(api.CodeEscape, place)
}

// octal tells the byte of the first digits, three at most, and goes back to the others.
func (r *reader) octal(digits []byte) byte {
	const most = 3
	if more := len(digits) - most; more > 0 {
		r.Back(more)
		digits = digits[:most]
	}
	value, _, _ := scan.Digits(digits, 8)
	return byte(value)
}

// conversion reads what stands behind a percent sign that isn't itself.
func (r *reader) conversion() (err error) {
	part := api.Part{Prec: -1}
	for _, sign := range r.While(flags) {
		*flag(&part, sign) = true
	}
	if part.Width, err = r.number(); err != nil {
		return err
	}
	if r.Take(".") {
		if part.Prec, err = r.number(); err != nil {
			return err
		}
	}
	place := r.Pos()
	letter, _ := r.Next() // at the end 0, which is no conversion
	switch letter {
	case 'i':
		letter = 'd'
		fallthrough
	case 'c', 's', 'b', 'd', 'o', 'u', 'x', 'X':
		part.Conv = letter
		r.parts = append(r.parts, part)
		return nil
	}
	return refusal(api.CodeSyntax, place)
}

// number reads the digits of a width or of a precision; where there are none, it is 0.
func (r *reader) number() (int, error) {
	place := r.Pos()
	n, _, _ := scan.Digits(r.While("0123456789"), 10) // what no int64 holds is told as the greatest
	if n > api.MaxWidth {
		return 0, refusal(api.CodeNumber, place)
	}
	return int(n), nil
}

// put takes a byte that is printed as it is, into the part of those that stand beside it.
func (r *reader) put(b byte) {
	last := len(r.parts) - 1
	if last < 0 || !isLit(r.parts[last]) {
		r.parts = append(r.parts, api.Part{})
		last++
	}
	r.parts[last].Lit = append(r.parts[last].Lit, b)
}
