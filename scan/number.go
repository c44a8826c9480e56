package scan

import (
	"math"
	"strconv"
	"strings"
)

const (
	leastBase    = 2
	greatestBase = 16
)

// Digits reads the longest beginning of b whose bytes are digits of the base: its value, how many bytes, and whether the value is too great.
func Digits(b []byte, base int) (int64, int, bool) {
	if !isBase(base) {
		return 0, 0, false
	}
	value, length, over := read(b, uint64(base), math.MaxInt64)
	return int64(value), length, over
}

// Const reads a constant as C writes it.
func Const(b []byte) (int64, int, bool) {
	switch {
	case beginsHex(b):
		value, length, over := Digits(b[2:], 16)
		return value, 2 + length, over
	case len(b) > 0 && b[0] == '0':
		return Digits(b, 8)
	}
	return Digits(b, 10)
}

// Whole tells the number that the whole of s writes.
func Whole(s string) (int64, bool) {
	digits, minus := strings.CutPrefix(s, "-")
	most := uint64(math.MaxInt64)
	if minus {
		most++
	}
	value, length, over := read(digits, 10, most)
	if over || length == 0 || length < len(digits) {
		return 0, false
	}
	if minus {
		value = -value // ahead of int64, which the magnitude of the least one is too great for
	}
	return int64(value), true
}

// Text writes n.
func Text(n int64) string {
	return strconv.FormatInt(n, 10)
}

// Base writes n to the base.
func Base(n uint64, base int, upper bool) string {
	if !isBase(base) {
		return ""
	}
	digits := strconv.FormatUint(n, base)
	if upper {
		digits = strings.ToUpper(digits)
	}
	return digits
}

func isBase(base int) bool {
	return leastBase <= base && base <= greatestBase
}

// beginsHex tells whether b begins with 0x and a digit; without the digit the x is no part of a constant.
func beginsHex(b []byte) bool {
	return len(b) > 2 && b[0] == '0' && (b[1] == 'x' || b[1] == 'X') && digit(b[2]) < 16
}

// read reads the digits at the beginning of text: their value, brought to most, how many there are, and whether the value is greater than most.
func read[T string | []byte](text T, base, most uint64) (value uint64, length int, over bool) {
reading:
	for length < len(text) {
		d := digit(text[length])
		switch {
		case d >= base:
			break reading
		case value > (most-d)/base: // the sum itself might wrap; once over, it stays over
			value, over = most, true
		default:
			value = value*base + d
		}
		length++
	}
	return value, length, over
}

// digit tells the value of a digit; of another byte a value that is a digit of no base.
func digit(c byte) uint64 {
	var above byte
	switch {
	case 'a' <= c && c <= 'f':
		above = 'a' - 'A'
		fallthrough
	case 'A' <= c && c <= 'F':
		above += 'A' - '9' - 1
		fallthrough
	case '0' <= c && c <= '9':
		return uint64(c - above - '0')
	}
	return greatestBase
}
