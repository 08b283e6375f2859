package shape

import (
	"errors"

	"diaeresis/api"
)

// fault is what is wrong, as the number that callers are told.
type fault api.Errno

func (f fault) Error() string {
	switch api.Errno(f) {
	case api.ErrArray:
		return "it is no array"
	case api.ErrRank:
		return "it has not one item, or is no list"
	case api.ErrLength:
		return "there are no items to go through again"
	case api.ErrLimit:
		return "there are too many items"
	}
	return "there is no such function of such items"
}

// wrong is a glyph, and what is wrong with its function or the arrays.
type wrong struct {
	glyph string
	err   error
}

func (w wrong) Error() string { return "shape: " + w.glyph + ": " + w.err.Error() }

func (w wrong) Unwrap() error { return w.err }

// told is what callers are told of what is wrong.
func told(err error) api.Errno {
	f := fault(api.OK)
	if errors.As(err, &f) {
		return api.Errno(f)
	}
	return api.OK
}
