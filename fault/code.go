package fault

import (
	"errors"

	"pidgin/api"
)

// The errors at the bottom. Each says its code's word, so that the words stand but once.
var (
	errArg     = errors.New("argument")
	errLong    = errors.New("long")
	errSyntax  = errors.New("syntax")
	errDeep    = errors.New("deep")
	errMany    = errors.New("many")
	errNumber  = errors.New("number")
	errRange   = errors.New("range")
	errBracket = errors.New("bracket")
	errGroup   = errors.New("group")
	errEscape  = errors.New("escape")
	errStates  = errors.New("states")
	errDivide  = errors.New("divide")
	errValue   = errors.New("value")
	errOperand = errors.New("operand")
	errName    = errors.New("name")
	errFile    = errors.New("file")
	errDir     = errors.New("dir")
	errExists  = errors.New("exists")
	errFull    = errors.New("full")
	errLabel   = errors.New("label")
	errFuel    = errors.New("fuel")
)

// Of tells the error of a code, or nil where the number is the code of none.
func Of(code int) error {
	switch code {
	case api.CodeArg:
		return errArg
	case api.CodeLong:
		return errLong
	case api.CodeSyntax:
		return errSyntax
	case api.CodeDeep:
		return errDeep
	case api.CodeMany:
		return errMany
	case api.CodeNumber:
		return errNumber
	case api.CodeRange:
		return errRange
	case api.CodeBracket:
		return errBracket
	case api.CodeGroup:
		return errGroup
	case api.CodeEscape:
		return errEscape
	case api.CodeStates:
		return errStates
	case api.CodeDivide:
		return errDivide
	case api.CodeValue:
		return errValue
	case api.CodeOperand:
		return errOperand
	case api.CodeName:
		return errName
	case api.CodeFile:
		return errFile
	case api.CodeDir:
		return errDir
	case api.CodeExists:
		return errExists
	case api.CodeFull:
		return errFull
	case api.CodeLabel:
		return errLabel
	case api.CodeFuel:
		return errFuel
	}
	return nil
}

// Is tells whether err is the error of that code, or wraps it.
func Is(err error, code int) (is bool) {
	bottom := Of(code)
	if bottom == nil { // errors.Is holds of nil and nil, but there is no such code
		return false
	}
	// The methods of an error from elsewhere run inside errors.Is, and may panic.
	defer func() {
		if recover() != nil {
			is = false
		}
	}()
	return errors.Is(err, bottom)
}

// leastCode tells the least code that err says, or CodeOther.
func leastCode(err error) int {
	for code := api.CodeArg; code < api.CodeOther; code++ {
		if Is(err, code) {
			return code
		}
	}
	return api.CodeOther
}
