package place

import (
	"errors"

	"diaeresis/api"
)

// fault is what is wrong, with the number that callers are told.
type fault struct {
	number api.Errno
	words  string
}

func (f fault) Error() string {
	return "place: " + f.words
}

func noUnit() error {
	return fault{api.ErrArg, "there is no such unit"}
}

func noPlace() error {
	return fault{api.ErrPlace, "there is no such place"}
}

// number is what callers are told of what is wrong.
func number(err error) api.Errno {
	var f fault
	if errors.As(err, &f) {
		return f.number
	}
	return api.OK
}
