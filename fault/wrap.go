package fault

import "errors"

// placed is what At tells.
type placed struct {
	err error
	pos int
}

func (p *placed) Unwrap() error { return p.err }
func (p *placed) Error() string { return Text(Tell(p)) }

// spoken is what In tells.
type spoken struct {
	err  error
	lang int
}

func (s *spoken) Unwrap() error { return s.err }
func (s *spoken) Error() string { return Text(Tell(s)) }

// outermost tells the first E among err and what it wraps; false, if there is none.
func outermost[E error](err error) (found E, ok bool) {
	// The methods of an error from elsewhere run inside errors.As, and may panic.
	defer func() {
		if recover() != nil {
			ok = false
		}
	}()
	ok = errors.As(err, &found)
	return found, ok
}
