package retext

import (
	"errors"

	"pidgin/api"
	"pidgin/fault"
)

// refusal is an error that the reader met, which knows its place alone.
type refusal struct {
	why   error
	place int
}

func (r *refusal) Unwrap() error { return r.why }
func (r *refusal) Error() string { return r.why.Error() }

func refuse(code, place int) error {
	return &refusal{fault.Of(code), place}
}

// told tells an error with its place and language.
func told(err error, ext bool) error {
	var own *refusal
	if !errors.As(err, &own) { // what set.Bracket refuses has both
		return err
	}
	return fault.In(fault.At(own.why, own.place), langOf(ext))
}

func langOf(ext bool) int {
	if ext {
		return api.LangEre
	}
	return api.LangBre
}
