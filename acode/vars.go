package acode

import (
	"maps"
	"math"
	"slices"
	"strings"

	"pidgin/api"
	"pidgin/scan"
)

const white = " \t\n"

// Vars is variables.
type Vars struct {
	byName map[string]api.Var // nil as long as nothing was set
}

// New tells variables of which none is set.
func New() *Vars {
	return &Vars{}
}

// Set sets a variable; false, if name is no name.
func (v *Vars) Set(name, value string) bool {
	if v == nil || !isName(name) {
		return false
	}
	if v.byName == nil {
		v.byName = map[string]api.Var{}
	}
	v.byName[name] = api.Var{Name: name, Value: value}
	return true
}

// Unset makes a variable unset.
func (v *Vars) Unset(name string) {
	if v != nil {
		delete(v.byName, name)
	}
}

// Get tells the value of a variable; false, if it is unset.
func (v *Vars) Get(name string) (string, bool) {
	if v == nil {
		return "", false
	}
	found, ok := v.byName[name]
	return found.Value, ok
}

// List tells the variables, rising by names.
func (v *Vars) List() []api.Var {
	if v == nil {
		return nil
	}
	return slices.SortedFunc(maps.Values(v.byName), func(a, b api.Var) int {
		return strings.Compare(a.Name, b.Name)
	})
}

// Copy tells variables of their own that are set as these are.
func (v *Vars) Copy() *Vars {
	if v == nil {
		return nil
	}
	return &Vars{maps.Clone(v.byName)}
}

// isName tells whether the whole of text is a name.
func isName(text string) bool {
	return text != "" && scan.Name([]byte(text)) == len(text)
}

// numberOf tells the number that a value is, or the code of what is wrong with it.
func numberOf(value string) (number int64, code int) {
	if value == "" {
		return 0, api.CodeNone
	}
	text := strings.Trim(value, white)
	if text == scan.Text(math.MinInt64) { // behind its sign stands no constant that fits
		return math.MinInt64, api.CodeNone
	}
	unsigned, minus := strings.CutPrefix(text, "-")
	if !minus {
		unsigned = strings.TrimPrefix(text, "+")
	}
	number, length, over := scan.Const([]byte(unsigned))
	switch {
	case length == 0 || length < len(unsigned):
		return 0, api.CodeValue
	case over:
		return 0, api.CodeNumber
	case minus:
		number = -number
	}
	return number, api.CodeNone
}
