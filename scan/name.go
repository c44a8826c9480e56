package scan

// Name tells how many bytes the name at the beginning of b has.
func Name(b []byte) int {
	length := 0
	for length < len(b) && inName(b[length], length) {
		length++
	}
	return length
}

// inName tells whether a name may have the byte c at the place at.
func inName(c byte, at int) bool {
	switch {
	case 'a' <= c && c <= 'z', 'A' <= c && c <= 'Z', c == '_':
		return true
	case '0' <= c && c <= '9':
		return at > 0
	}
	return false
}
