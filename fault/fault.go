// Package fault: errors: see ../../shared/doc/01-fault.md.
package fault

import (
	"strconv"

	"pidgin/api"
)

// At tells an error that wraps err and knows the place pos.
func At(err error, pos int) error {
	if err == nil {
		return nil
	}
	return &placed{err, pos}
}

// In tells an error that wraps err and knows the language lang.
func In(err error, lang int) error {
	if err == nil {
		return nil
	}
	return &spoken{err, lang}
}

// Tell tells what err and the errors that it wraps say.
func Tell(err error) api.Fault {
	if err == nil {
		return api.Fault{}
	}
	told := api.Fault{Code: leastCode(err)}
	// An error from elsewhere may say that it is one and hand over none: hence nil is asked for, too.
	if at, ok := outermost[*placed](err); ok && at != nil {
		told.Pos = at.pos
	}
	if in, ok := outermost[*spoken](err); ok && in != nil {
		told.Lang = in.lang
	}
	return told
}

// Text writes a fault: language, place, code.
func Text(f api.Fault) string {
	return langWord(f.Lang) + ":" + strconv.Itoa(f.Pos) + ": " + codeWord(f.Code)
}
