package glob

import (
	"pidgin/api"
	"pidgin/set"
)

// read adds the pieces of a text.
func (p *Pattern) read(b []byte) {
reading:
	for at := 0; at < len(b); at++ {
		switch b[at] {
		case '*':
			p.add(api.Piece{Kind: api.GMany})
			continue reading
		case '?':
			p.add(api.Piece{Kind: api.GOne})
			continue reading
		case '[':
			if s, end, err := set.Bracket(b, at+1, api.LangGlob); err == nil {
				p.add(api.Piece{Kind: api.GByte, Set: s})
				at = end - 1 // the loop goes on by one
				continue reading
			}
		case '\\':
			at = min(at+1, len(b)-1) // at the end it quotes nothing and is itself
		}
		p.add(api.Piece{Kind: api.GByte, Set: set.Of(string(b[at : at+1]))})
	}
}

// add adds a piece.
func (p *Pattern) add(piece api.Piece) {
	p.pieces = append(p.pieces, piece)
	if set.Len(piece.Set) == 1 { // any byte and any bytes have no set
		p.plain = append(p.plain, set.Bytes(piece.Set)...)
	}
}
