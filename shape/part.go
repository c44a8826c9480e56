package shape

import (
	"pidgin/api"
	"pidgin/scan"
)

// flags are those that a conversion may have, in the order in which they are written.
const flags = "-+ 0#"

// flag tells where a conversion keeps a flag, so that one list says it to the reader and to the writer.
func flag(part *api.Part, sign byte) *bool {
	switch sign {
	case '-':
		return &part.Minus
	case '+':
		return &part.Plus
	case ' ':
		return &part.Space
	case '0':
		return &part.Zero
	}
	return &part.Alt
}

// isLit tells whether a part is bytes, not a conversion.
func isLit(part api.Part) bool {
	return part.Conv == 0
}

// appendPart writes a part behind a text.
func appendPart(text []byte, part api.Part) []byte {
	if isLit(part) {
		return appendHex(text, part.Lit)
	}
	text = append(text, '%')
	for _, sign := range []byte(flags) {
		if *flag(&part, sign) {
			text = append(text, sign)
		}
	}
	if part.Width > 0 {
		text = append(text, scan.Text(int64(part.Width))...)
	}
	if part.Prec >= 0 {
		text = append(text, '.')
		text = append(text, scan.Text(int64(part.Prec))...)
	}
	return append(text, part.Conv)
}

// appendHex writes bytes between quotes, each with two digits to the base 16.
func appendHex(text, bytes []byte) []byte {
	const digits = "0123456789abcdef"
	text = append(text, '"')
	for _, b := range bytes {
		text = append(text, digits[b/16], digits[b%16])
	}
	return append(text, '"')
}
