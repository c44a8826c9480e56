package retext

import (
	"pidgin/api"
	"pidgin/set"
)

// reader goes over the signs of an expression, one ahead of what it has taken.
type reader struct {
	ext    bool
	read   func() sign
	next   sign
	groups int // how many were opened
	open   int // how many of them are not closed
}

func newReader(b []byte, ext bool) *reader {
	read := signs(b, ext)
	return &reader{ext: ext, read: read, next: read()}
}

// take tells the next sign and goes on behind it.
func (r *reader) take() sign {
	taken := r.next
	r.next = r.read()
	return taken
}

// whole reads all signs.
func (r *reader) whole() (api.Re, error) {
	tree, err := r.re()
	if err == nil && r.next.kind != last {
		err = refuse(api.CodeGroup, r.next.place)
	}
	return tree, err
}

// re reads branches up to what closes a group, or the end.
func (r *reader) re() (api.Re, error) {
	var branches []api.Re
	for {
		branch, err := r.branch()
		if err != nil {
			return api.Re{}, err
		}
		branches = append(branches, branch)
		if r.next.kind != bar {
			return joined(api.ReAlt, branches), nil
		}
		r.take()
	}
}

// branch reads items up to what ends a branch.
func (r *reader) branch() (api.Re, error) {
	var items []api.Re
	for !r.next.endsBranch() {
		s := r.take()
		if r.isByte(s, items) {
			s = sign{re: setOf(set.Of(s.text))}
		}
		if s.kind == times {
			if err := repeat(items, s); err != nil {
				return api.Re{}, err
			}
			continue
		}
		read, err := r.item(s)
		if err != nil {
			return api.Re{}, err
		}
		items = append(items, read)
	}
	if len(items) == 0 {
		return api.Re{}, r.nothing()
	}
	return joined(api.ReCat, items), nil
}

// item reads the item that a sign is, or opens.
func (r *reader) item(s sign) (api.Re, error) {
	if s.kind == opening {
		return r.group(s.place)
	}
	return s.re, s.err
}

// group reads a group from behind its opening sign on.
func (r *reader) group(place int) (api.Re, error) {
	if r.groups == api.MaxGroups {
		return api.Re{}, refuse(api.CodeMany, place)
	}
	r.groups++
	r.open++
	number := r.groups // those within count on
	inner, err := r.re()
	switch {
	case err != nil:
		return api.Re{}, err
	case r.next.kind != closing:
		return api.Re{}, refuse(api.CodeGroup, r.next.place)
	}
	r.take()
	r.open--
	return api.Re{Kind: api.ReGroup, Group: number, Kids: []api.Re{inner}}, nil
}

// isByte tells whether a sign behind those items does nothing where it stands, as some do in the basic grammar.
func (r *reader) isByte(s sign, items []api.Re) bool {
	if r.ext {
		return false
	}
	switch s.text {
	case "^":
		return len(items) > 0
	case "$":
		return !r.next.endsBranch()
	case "*":
		return !endsWithPiece(items)
	}
	return false
}

// nothing refuses a branch without an item.
func (r *reader) nothing() error {
	code := api.CodeSyntax
	if r.ext && r.next.kind == closing && r.open == 0 { // the basic grammar tells what lacks ahead of a \), not that its \( does
		code = api.CodeGroup
	}
	return refuse(code, r.next.place)
}

// repeat makes the last item stand as many times as the sign says.
func repeat(items []api.Re, s sign) error {
	switch {
	case !endsWithPiece(items):
		return refuse(api.CodeSyntax, s.place)
	case s.err != nil:
		return s.err
	}
	end := len(items) - 1
	items[end] = api.Re{Kind: api.ReRep, Min: s.least, Max: s.most, Kids: []api.Re{items[end]}}
	return nil
}

// endsWithPiece tells whether the last item may stand more than once.
func endsWithPiece(items []api.Re) bool {
	if len(items) == 0 {
		return false
	}
	kind := items[len(items)-1].Kind
	return kind != api.ReBegin && kind != api.ReEnd
}
