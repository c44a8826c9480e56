package retext

import (
	"strconv"
	"strings"

	"pidgin/api"
	"pidgin/set"
)

// joined tells the parts as one part of that kind; one alone is itself.
func joined(kind int, parts []api.Re) api.Re {
	if len(parts) == 1 {
		return parts[0]
	}
	return api.Re{Kind: kind, Kids: parts}
}

// clone tells a copy that shares no memory with part.
func clone(part api.Re) api.Re {
	kids := part.Kids
	part.Kids = nil
	for _, kid := range kids {
		part.Kids = append(part.Kids, clone(kid))
	}
	return part
}

// text writes part, and the parts in it.
func text(part api.Re) string {
	var words []string
	switch part.Kind {
	case api.ReSet:
		if part.Set == anyByte() {
			return "."
		}
		return set.Text(part.Set)
	case api.ReBegin:
		return "^"
	case api.ReEnd:
		return "$"
	case api.ReCat:
		words = []string{"cat"}
	case api.ReAlt:
		words = []string{"alt"}
	case api.ReRep:
		words = []string{"rep", strconv.Itoa(part.Min), bound(part.Max)}
	case api.ReGroup:
		words = []string{"group", strconv.Itoa(part.Group)}
	default: // nothing was read
		return ""
	}
	for _, kid := range part.Kids {
		words = append(words, text(kid))
	}
	return "(" + strings.Join(words, " ") + ")"
}

// bound writes the greatest number of times.
func bound(most int) string {
	if most == endless {
		return "-"
	}
	return strconv.Itoa(most)
}

func anyByte() api.Set {
	return set.Not(api.Set{})
}
