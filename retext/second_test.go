package retext_test

import (
	"regexp"
	"strconv"
	"strings"

	"pidgin/api"
	"pidgin/fault"
	"pidgin/set"
)

// The second reading goes token by token, with a stack of the groups that are open, and writes what it reads at once: no tree, and nothing that calls itself.

// level is a group that is open, or the whole.
type level struct {
	group    int
	branches []string
	items    []string
}

// mayRepeat says whether the last item of a level is one that may stand more than once.
func (l *level) mayRepeat() bool {
	return len(l.items) > 0 && l.items[len(l.items)-1] != "^" && l.items[len(l.items)-1] != "$"
}

// endBranch puts the items together.
func (l *level) endBranch() {
	l.branches, l.items = append(l.branches, wrap("cat", l.items)), nil
}

// token is what stands at a place: what it does or is, how long it is, and, if it is a fault, which.
type token struct {
	does   string // open, close, bar, end, rep, item
	is     string // of rep and item: as Text writes it
	length int
	fault  api.Fault // with its place counted from the token's
}

var numbers = regexp.MustCompile(`^([0-9]{1,3})((,)([0-9]{1,3})?)?`)

// intervalOf reads an interval from its brace on.
func intervalOf(rest, brace, end string) token {
	found := numbers.FindStringSubmatch(rest[len(brace):])
	if found == nil || !strings.HasPrefix(rest[len(brace)+len(found[0]):], end) {
		return token{does: "rep", fault: api.Fault{Code: api.CodeRange}}
	}
	least, most := found[1], found[4]
	switch {
	case found[3] == "":
		most = least
	case most == "":
		most = "-1"
	}
	m, _ := strconv.Atoi(least)
	n, _ := strconv.Atoi(most)
	if m > 255 || n > 255 || n != -1 && n < m {
		return token{does: "rep", fault: api.Fault{Code: api.CodeRange}}
	}
	return token{does: "rep", is: strconv.Itoa(m) + " " + strings.Replace(strconv.Itoa(n), "-1", "-", 1), length: len(brace) + len(found[0]) + len(end)}
}

// atomOf reads an atom that is no group and has no other meaning where it stands.
func atomOf(rest, quotable string, lang int) token {
	switch {
	case rest[0] == '.':
		return token{does: "item", is: ".", length: 1}
	case rest[0] == '[':
		s, end, err := set.Bracket([]byte(rest), 1, lang)
		return token{does: "item", is: setText(s), length: end, fault: fault.Tell(err)}
	case strings.HasPrefix(rest, `\n`):
		return token{does: "item", is: "[0a]", length: 2}
	case rest[0] != '\\':
		return token{does: "item", is: hex(rest[0]), length: 1}
	case len(rest) > 1 && strings.Contains(quotable, rest[1:2]):
		return token{does: "item", is: hex(rest[1]), length: 2}
	}
	return token{does: "item", fault: api.Fault{Code: api.CodeEscape}}
}

// basicToken reads the token at the beginning of what is left.
func basicToken(rest string, in *level) token {
	front := len(in.items) == 0
	switch {
	case rest == "":
		return token{does: "end"}
	case strings.HasPrefix(rest, `\(`):
		return token{does: "open", length: 2}
	case strings.HasPrefix(rest, `\)`):
		return token{does: "close", length: 2}
	case strings.HasPrefix(rest, `\{`):
		return intervalOf(rest, `\{`, `\}`)
	case strings.HasPrefix(rest, `\}`):
		return token{does: "item", fault: api.Fault{Code: api.CodeSyntax}}
	case rest[0] == '^' && front:
		return token{does: "item", is: "^", length: 1}
	case rest == "$", strings.HasPrefix(rest, `$\)`):
		return token{does: "item", is: "$", length: 1}
	case rest[0] == '*' && !front && !(len(in.items) == 1 && in.items[0] == "^"):
		return token{does: "rep", is: "0 -", length: 1}
	}
	return atomOf(rest, `.[]*^$/\`, api.LangBre)
}

// extendedToken reads the token at the beginning of what is left.
func extendedToken(rest string) token {
	if rest == "" {
		return token{does: "end"}
	}
	switch rest[:1] {
	case "(":
		return token{does: "open", length: 1}
	case ")":
		return token{does: "close", length: 1}
	case "|":
		return token{does: "bar", length: 1}
	case "*":
		return token{does: "rep", is: "0 -", length: 1}
	case "+":
		return token{does: "rep", is: "1 -", length: 1}
	case "?":
		return token{does: "rep", is: "0 1", length: 1}
	case "{":
		return intervalOf(rest, "{", "}")
	case "^", "$":
		return token{does: "item", is: rest[:1], length: 1}
	}
	return atomOf(rest, `.[]()*+?{}|^$/\`, api.LangEre)
}

// refusedAt tells the code of a token that may not stand where it stands; 0, if it may.
func refusedAt(next token, in *level, open, groups int, ext bool) int {
	empty := len(in.items) == 0
	switch {
	case next.does == "close" && ext && open == 0:
		return api.CodeGroup
	case empty && (next.does == "close" || next.does == "bar" || next.does == "end"):
		return api.CodeSyntax
	case next.does == "close" && open == 0, next.does == "end" && open > 0:
		return api.CodeGroup
	case next.does == "rep" && !in.mayRepeat():
		return api.CodeSyntax
	case next.does == "open" && groups == 9:
		return api.CodeMany
	}
	return next.fault.Code
}

// second reads a text: as Text writes it, and how many groups; or its fault.
func second(text string, ext bool) (written string, groups int, refused api.Fault) {
	stack := []*level{{}}
	for at := 0; ; {
		in := stack[len(stack)-1]
		next := basicToken(text[at:], in)
		if ext {
			next = extendedToken(text[at:])
		}
		if code := refusedAt(next, in, len(stack)-1, groups, ext); code != 0 {
			return "", 0, api.Fault{Code: code, Pos: at + next.fault.Pos, Lang: langOf(ext)}
		}
		at += next.length
		switch next.does {
		case "open":
			groups++
			stack = append(stack, &level{group: groups})
		case "close":
			in.endBranch()
			stack = stack[:len(stack)-1]
			around := stack[len(stack)-1]
			around.items = append(around.items, "(group "+strconv.Itoa(in.group)+" "+wrap("alt", in.branches)+")")
		case "bar":
			in.endBranch()
		case "rep":
			last := len(in.items) - 1
			in.items[last] = "(rep " + next.is + " " + in.items[last] + ")"
		case "item":
			in.items = append(in.items, next.is)
		case "end":
			in.endBranch()
			return wrap("alt", in.branches), groups, api.Fault{}
		}
	}
}
