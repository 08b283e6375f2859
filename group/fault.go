package group

import (
	"errors"
	"strconv"

	"diaeresis/api"
)

// fault is what is wrong, as the number that callers are told.
type fault api.Errno

func (f fault) Error() string {
	if api.Errno(f) == api.ErrDeep {
		return "it is too deep"
	}
	return "it has no partner"
}

// wrong is a bracket with which something is wrong.
type wrong struct {
	at  int
	err error
}

func (w wrong) Error() string {
	return "group: the bracket at " + strconv.Itoa(w.at) + ": " + w.err.Error()
}

func (w wrong) Unwrap() error { return w.err }

// number is what callers are told of what is wrong: without a fault, that
// nothing is.
func number(err error) api.Errno {
	f := fault(api.OK)
	errors.As(err, &f)
	return api.Errno(f)
}
