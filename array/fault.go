package array

import (
	"errors"

	"diaeresis/api"
)

// fault is what is wrong, as the number that callers are told.
type fault api.Errno

func (f fault) Error() string {
	switch api.Errno(f) {
	case api.ErrArray:
		return "it is no array"
	case api.ErrDomain:
		return "there is no such function of such items"
	case api.ErrLength:
		return "the lists have not as many items"
	case api.ErrLimit:
		return "there are too many items"
	}
	return "nothing comes of such numbers"
}

// wrong is a glyph, or a literal's text, and what is wrong with it.
type wrong struct {
	text string
	err  error
}

func (w wrong) Error() string { return "array: " + w.text + ": " + w.err.Error() }

func (w wrong) Unwrap() error { return w.err }

// told is what callers are told of what is wrong.
func told(err error) api.Errno {
	f := fault(api.OK)
	if errors.As(err, &f) {
		return api.Errno(f)
	}
	return api.OK
}
