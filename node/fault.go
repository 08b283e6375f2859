package node

import (
	"errors"
	"strconv"

	"diaeresis/api"
)

// errNode is what all that can be wrong here comes to.
var errNode = errors.New("node: there is no such tree")

// wrong is a place at which something is wrong with nodes.
type wrong struct {
	at    int
	words string
}

func (w wrong) Error() string {
	return "node: at " + strconv.Itoa(w.at) + ": " + w.words
}

func (w wrong) Unwrap() error { return errNode }

// number is what callers are told of what is wrong.
func number(err error) api.Errno {
	if errors.Is(err, errNode) {
		return api.ErrNode
	}
	return api.OK
}
