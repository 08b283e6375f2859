package number

import (
	"errors"

	"diaeresis/api"
)

// errDomain is what comes of a glyph that has no function, and of numbers that
// its function is not of.
var errDomain = errors.New("there is no such function of such numbers")

// fault is what is wrong with what becomes of numbers, as the number that
// callers are told.
type fault api.Errno

func (f fault) Error() string {
	if api.Errno(f) == api.ErrOver {
		return "it is no number of 64 bits"
	}
	return "there is not just one such number"
}

// wrong is a glyph, and what is wrong with its function or the numbers.
type wrong struct {
	glyph string
	err   error
}

func (w wrong) Error() string { return "number: " + w.glyph + ": " + w.err.Error() }

func (w wrong) Unwrap() error { return w.err }

// told is what callers are told of what is wrong.
func told(err error) api.Errno {
	f := fault(api.OK)
	switch {
	case errors.Is(err, errDomain):
		return api.ErrDomain
	case errors.As(err, &f):
		return api.Errno(f)
	}
	return api.OK
}
