package shape_test

import (
	"encoding/hex"
	"math/big"
	"regexp"
	"strconv"
	"strings"

	"pidgin/api"
)

// The second reading goes by the words of the chapter: a text is cut into tokens by regular expressions, and each token is looked at by itself.
var (
	plainToken  = regexp.MustCompile(`^[^%\\]`)
	escapeToken = regexp.MustCompile(`^\\(?:[0-7]{1,3}|[\\abfnrtv])`)
	aheadToken  = regexp.MustCompile(`^%([-+ 0#]*)((?:[1-9][0-9]*)?)((?:\.[0-9]*)?)`) // what stands ahead of a conversion's letter
)

// partsOf reads a format, or tells its first fault.
func partsOf(text string) ([]api.Part, api.Fault) {
	if len(text) > api.MaxForm {
		return nil, printf(api.CodeLong, 0)
	}
	var parts []api.Part
	var side []byte // bytes that stand side by side
	end := func() {
		if len(side) > 0 {
			parts = append(parts, api.Part{Lit: side})
		}
		side = nil
	}
	for at := 0; at < len(text); {
		left := text[at:]
		switch {
		case strings.HasPrefix(left, "%%"):
			side, at = append(side, '%'), at+2
		case plainToken.MatchString(left):
			side, at = append(side, left[0]), at+1
		case left[0] == '\\':
			token := escapeToken.FindString(left)
			if token == "" {
				return nil, printf(api.CodeEscape, at)
			}
			side, at = append(side, escaped(token[1:])), at+len(token)
		default:
			part, length, why := conversionOf(left, at)
			if why != (api.Fault{}) {
				return nil, why
			}
			end()
			parts, at = append(parts, part), at+length
		}
	}
	end()
	return parts, api.Fault{}
}

// escaped tells the byte that an escape means.
func escaped(behind string) byte {
	means := map[string]byte{`\`: 92, "a": 7, "b": 8, "f": 12, "n": 10, "r": 13, "t": 9, "v": 11}
	if b, ok := means[behind]; ok {
		return b
	}
	value, err := strconv.ParseUint(behind, 8, 64)
	if err != nil {
		panic(err)
	}
	return byte(value % 256)
}

// conversionOf reads the conversion at the beginning of left, which stands at the place at: the part, and how many bytes it has; or its fault.
func conversionOf(left string, at int) (api.Part, int, api.Fault) {
	found := aheadToken.FindStringSubmatch(left)
	flags, width, prec := found[1], found[2], found[3]
	if above(width) {
		return api.Part{}, 0, printf(api.CodeNumber, at+1+len(flags))
	}
	if prec != "" && above(prec[1:]) {
		return api.Part{}, 0, printf(api.CodeNumber, at+1+len(flags)+len(width)+1)
	}
	behind := left[len(found[0]):]
	if behind == "" || !strings.Contains("csbdiouxX", behind[:1]) {
		return api.Part{}, 0, printf(api.CodeSyntax, at+len(found[0]))
	}
	part := api.Part{
		Conv: strings.Replace(behind[:1], "i", "d", 1)[0], Width: number(width), Prec: -1,
		Minus: strings.Contains(flags, "-"), Plus: strings.Contains(flags, "+"), Space: strings.Contains(flags, " "), Zero: strings.Contains(flags, "0"), Alt: strings.Contains(flags, "#"),
	}
	if prec != "" {
		part.Prec = number(prec[1:])
	}
	return part, len(found[0]) + 1, api.Fault{}
}

// above tells whether a number is too great for a width or a precision.
func above(digits string) bool {
	n, ok := new(big.Int).SetString("0"+digits, 10)
	return !ok || n.Cmp(big.NewInt(api.MaxWidth)) > 0
}

// number tells the number that digits write; none write 0.
func number(digits string) int {
	n, err := strconv.Atoi("0" + digits)
	if err != nil {
		panic(err)
	}
	return n
}

// textOf writes parts as Text does.
func textOf(parts []api.Part) string {
	words := []string{}
	for _, part := range parts {
		if part.Conv == 0 {
			words = append(words, `"`+hex.EncodeToString(part.Lit)+`"`)
			continue
		}
		word := "%"
		for i, has := range []bool{part.Minus, part.Plus, part.Space, part.Zero, part.Alt} {
			if has {
				word += string("-+ 0#"[i])
			}
		}
		if part.Width != 0 {
			word += strconv.Itoa(part.Width)
		}
		if part.Prec != -1 {
			word += "." + strconv.Itoa(part.Prec)
		}
		words = append(words, word+string(rune(part.Conv)))
	}
	return strings.Join(words, " ")
}

// wantsOf counts the conversions.
func wantsOf(parts []api.Part) int {
	count := 0
	for _, part := range parts {
		if part.Conv != 0 {
			count++
		}
	}
	return count
}
