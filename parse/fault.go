package parse

import (
	"errors"
	"strconv"

	"diaeresis/api"
)

// errSyntax is what all that the grammar has no place for comes to.
var errSyntax = errors.New("no such thing stands there")

// fault is what is wrong ahead of the grammar, as the number that callers are
// told.
type fault api.Errno

func (f fault) Error() string {
	return "error " + strconv.Itoa(int(f))
}

// wrong is words on something that is wrong, and what it comes to.
type wrong struct {
	words string
	err   error
}

func (w wrong) Error() string { return "parse: " + w.words + ": " + w.err.Error() }

func (w wrong) Unwrap() error { return w.err }

// failed is what a layer below tells, as an error: of OK none.
func failed(words string, e api.Errno) error {
	if e == api.OK {
		return nil
	}
	return wrong{words, fault(e)}
}

// number is what callers are told of what is wrong.
func number(err error) api.Errno {
	f := fault(api.OK)
	switch {
	case errors.Is(err, errSyntax):
		return api.ErrSyntax
	case errors.As(err, &f):
		return api.Errno(f)
	}
	return api.OK
}
