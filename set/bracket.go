package set

import (
	"pidgin/api"
	"pidgin/fault"
	"pidgin/scan"
)

// Bracket reads the bracket expression whose [ stands just ahead of the place at: its set, and the place behind its ].
func Bracket(b []byte, at int, lang int) (api.Set, int, error) {
	r := &reader{lang: lang}
	if at < 0 || at > len(b) || !hasBrackets(lang) {
		return api.Set{}, 0, r.refusal(api.CodeArg, 0)
	}
	r.ahead, r.Cursor = at, scan.New(b[at:])
	s, err := r.bracket()
	if err != nil {
		return api.Set{}, 0, err
	}
	return s, r.place(), nil
}

func hasBrackets(lang int) bool {
	return lang == api.LangGlob || lang == api.LangBre || lang == api.LangEre
}

// reader reads a bracket expression.
type reader struct {
	*scan.Cursor
	ahead int // how many bytes stand ahead of where the cursor began
	lang  int
}

// item is what stands between the brackets: a byte, or a class.
type item struct {
	place   int
	isClass bool
	class   api.Set
	byte    byte
}

// bracket reads what turns, the items and the ] that ends.
func (r *reader) bracket() (api.Set, error) {
	turned := r.Take("^") || r.lang == api.LangGlob && r.Take("!")
	var s api.Set
	for first := true; first || !r.Take("]"); first = false { // a ] that stands first is an item
		part, err := r.part()
		if err != nil {
			return api.Set{}, err
		}
		s = Union(s, part)
	}
	if turned {
		s = Not(s)
	}
	return s, nil
}

// part reads an item, or a range from one to another.
func (r *reader) part() (api.Set, error) {
	low, err := r.item()
	switch {
	case err != nil:
		return api.Set{}, err
	case low.isClass:
		return low.class, nil
	case !r.takeDash():
		return Range(low.byte, low.byte), nil
	}
	high, err := r.item()
	switch {
	case err != nil:
		return api.Set{}, err
	case high.isClass:
		return api.Set{}, r.refusal(api.CodeBracket, high.place)
	case low.byte > high.byte:
		return api.Set{}, r.refusal(api.CodeRange, low.place)
	}
	return Range(low.byte, high.byte), nil
}

// takeDash takes the - of a range; one ahead of the ] that ends is an item.
func (r *reader) takeDash() bool {
	if r.Take("-]") {
		r.Back(len("-]"))
		return false
	}
	return r.Take("-")
}

// item reads an item.
func (r *reader) item() (item, error) {
	place := r.place()
	switch {
	case r.Take("[:"):
		class, ok := Class(r.className())
		if !ok {
			return item{}, r.refusal(api.CodeBracket, place)
		}
		return item{place: place, isClass: true, class: class}, nil
	case r.Take("[."), r.Take("[="):
		return item{}, r.refusal(api.CodeBracket, place)
	case r.lang == api.LangGlob:
		r.Take(`\`) // what stands behind it, be it a [ or a ], is read as a byte below
	}
	b, ok := r.Next()
	if !ok {
		return item{}, r.refusal(api.CodeBracket, r.place())
	}
	return item{place: place, byte: b}, nil
}

// className reads up to the next :] and behind it; a text that is no class's name, if there is none.
func (r *reader) className() string {
	var name []byte
	for !r.Take(":]") {
		b, ok := r.Next()
		if !ok {
			return ""
		}
		name = append(name, b)
	}
	return string(name)
}

// place tells the place in the whole text.
func (r *reader) place() int {
	return r.ahead + r.Pos()
}

// refusal tells an error of the language that is read.
func (r *reader) refusal(code, pos int) error {
	return fault.In(fault.At(fault.Of(code), pos), r.lang)
}
