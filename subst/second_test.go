package subst_test

import (
	"strconv"
	"strings"

	"pidgin/api"
	"pidgin/retext"
	"pidgin/span"
)

// The second reading goes by the words of the chapter: a template is a row of words, made from its text by cutting; matches are looked up in a table of what matches from where to where, and what is replaced is put together from texts.

// word is a part of a template: one byte of its own, or what is put in.
type word struct {
	own   string
	group int
}

// wordsOf reads a template, or tells its first fault.
func wordsOf(text string, groups int) ([]word, api.Fault) {
	if groups < 0 || groups > api.MaxGroups {
		return nil, sed(api.CodeArg, 0)
	}
	if len(text) > api.MaxSed {
		return nil, sed(api.CodeLong, 0)
	}
	var words []word
	for left := text; left != ""; {
		place := len(text) - len(left)
		behind, escaped := strings.CutPrefix(left, `\`)
		switch {
		case left[0] == '&':
			words, left = append(words, word{}), left[1:]
		case !escaped:
			words, left = append(words, word{own: left[:1]}), left[1:]
		case behind == "":
			return nil, sed(api.CodeEscape, place)
		case strings.Contains("0123456789", behind[:1]):
			group := number(behind[:1])
			if group > groups {
				return nil, sed(api.CodeGroup, place)
			}
			words, left = append(words, word{group: group}), behind[1:]
		default:
			words, left = append(words, word{own: strings.Replace(behind[:1], "n", "\n", 1)}), behind[1:]
		}
	}
	return words, api.Fault{}
}

// textOf writes a template's words as Text does.
func textOf(words []word) string {
	text, open := "", false // is the last piece one of bytes?
	for _, one := range words {
		switch {
		case one.own != "":
			digits := strconv.FormatInt(0x100+int64(one.own[0]), 16)[1:] + `"`
			if open {
				text = strings.TrimSuffix(text, `"`) + digits
			} else {
				text += ` "` + digits
			}
		case one.group == 0:
			text += " &"
		default:
			text += ` \` + strconv.Itoa(one.group)
		}
		open = one.own != ""
	}
	return strings.TrimPrefix(text, " ")
}

// applied tells what words make of a match.
func applied(words []word, s string, spans []api.Span) string {
	var text strings.Builder
	for _, one := range words {
		text.WriteString(one.own)
		if one.own == "" && one.group < len(spans) {
			if at := spans[one.group]; 0 <= at.Start && at.Start <= at.End && at.End <= len(s) {
				text.WriteString(s[at.Start:at.End])
			}
		}
	}
	return text.String()[:min(text.Len(), api.MaxSpace)]
}

// table tells of each place i of a subject of up to 63 bytes, as bits, the places j to which a part matches from i.
type table []uint64

// then matches one behind the other.
func (a table) then(b table) table {
	all := make(table, len(a))
	for i := range a {
		for k := range b {
			if a[i]>>k&1 == 1 {
				all[i] |= b[k]
			}
		}
	}
	return all
}

// or matches what one of the two does.
func (a table) or(b table) table {
	all := make(table, len(a))
	for i := range a {
		all[i] = a[i] | b[i]
	}
	return all
}

// standing matches nothing but what is empty.
func standing(s string) table {
	all := make(table, len(s)+1)
	for i := range all {
		all[i] = 1 << i
	}
	return all
}

// tableOf tells what an expression matches in a subject.
func tableOf(re api.Re, s string) table {
	all := make(table, len(s)+1)
	switch re.Kind {
	case api.ReSet:
		for i := range len(s) {
			all[i] = re.Set[s[i]/64] >> (s[i] % 64) & 1 << (i + 1)
		}
	case api.ReBegin:
		all[0] = 1
	case api.ReEnd:
		all[len(s)] = 1 << len(s)
	case api.ReCat:
		all = standing(s)
		for _, kid := range re.Kids {
			all = all.then(tableOf(kid, s))
		}
	case api.ReAlt:
		for _, kid := range re.Kids {
			all = all.or(tableOf(kid, s))
		}
	case api.ReRep:
		kid, times := tableOf(re.Kids[0], s), standing(s)
		for range re.Min {
			times = times.then(kid)
		}
		most := re.Max - re.Min
		if re.Max < 0 {
			most = len(s) // there are no more that are not empty
		}
		for all = times; most > 0; most-- {
			times = times.then(kid)
			all = all.or(times)
		}
	case api.ReGroup:
		return tableOf(re.Kids[0], s)
	}
	return all
}

// search tells the match that begins first from a place on, the longest of them.
func (a table) search(from int) (api.Span, bool) {
	for i := from; i < len(a); i++ {
		for j := len(a) - 1; j >= i; j-- {
			if a[i]>>j&1 == 1 {
				return api.Span{Start: i, End: j}, true
			}
		}
	}
	return api.Span{}, false
}

// matchesIn tells the spans of all matches: those of the groups as span.Parse tells them.
func matchesIn(r *retext.Re, s string) [][]api.Span {
	var all [][]api.Span
	what := tableOf(r.Tree(), s)
	for from := 0; ; {
		hit, ok := what.search(from)
		if !ok {
			return all
		}
		if count := len(all); count > 0 && hit.Start == hit.End && hit.Start == all[count-1][0].End {
			from = hit.End + 1
			continue
		}
		spans, ok := span.Parse(r, []byte(s), hit.Start, hit.End)
		if !ok {
			panic("no parse of a match")
		}
		all = append(all, spans)
		from = hit.End
	}
}

// replacedIn tells what becomes of s, how many are replaced, and what is refused.
func replacedIn(matches [][]api.Span, words []word, s string, nth int, all bool) (string, int, api.Fault) {
	if nth < 1 {
		return "", 0, sed(api.CodeArg, 0)
	}
	text, count := s, 0
	for number := len(matches); number >= nth; number-- { // from behind, so that the places ahead stay
		if number > nth && !all {
			continue
		}
		at := matches[number-1][0]
		text = text[:at.Start] + applied(words, s, matches[number-1]) + text[at.End:]
		count++
	}
	if len(text) > api.MaxSpace {
		return "", 0, sed(api.CodeFull, 0)
	}
	return text, count, api.Fault{}
}
