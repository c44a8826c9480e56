package subst

import "pidgin/api"

// reader is a template while it is read.
type reader struct {
	groups int // how many there are to put in
	pieces []piece
	bytes  []byte // those that stand side by side up to here; the bytes of the pieces ahead are in the same array, ahead of them
}

// read reads the pieces of a template.
func read(b []byte, groups int) ([]piece, error) {
	r := &reader{groups: groups, bytes: make([]byte, 0, len(b))}
	for at := 0; at < len(b); at++ {
		switch b[at] {
		case '\\':
			if code := r.escape(b[at+1:]); code != api.CodeNone {
				return nil, refusal(code, at)
			}
			at++
		case '&':
			r.refer(match)
		default:
			r.put(b[at])
		}
	}
	r.end()
	return r.pieces, nil
}

// escape reads what stands behind a backslash, and tells the code of what may not be.
func (r *reader) escape(behind []byte) int {
	if len(behind) == 0 {
		return api.CodeEscape
	}
	switch b := behind[0]; b {
	case '1', '2', '3', '4', '5', '6', '7', '8', '9':
		if int(b-'0') > r.groups {
			return api.CodeGroup
		}
		fallthrough
	case '0':
		r.refer(int(b - '0'))
	case 'n':
		b = '\n'
		fallthrough
	default:
		r.put(b)
	}
	return api.CodeNone
}

// put takes a byte that stands in the template.
func (r *reader) put(b byte) {
	r.bytes = append(r.bytes, b)
}

// refer makes a piece of a group, or of the match.
func (r *reader) refer(group int) {
	r.end()
	r.pieces = append(r.pieces, piece{group: group})
}

// end makes a piece of the bytes that stand side by side, if there are any. It ends where they do: the array goes on with the bytes of others.
func (r *reader) end() {
	if n := len(r.bytes); n > 0 {
		r.pieces = append(r.pieces, piece{group: own, bytes: r.bytes[:n:n]})
		r.bytes = r.bytes[n:]
	}
}
