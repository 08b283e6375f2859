package parse

import (
	"slices"

	"diaeresis/api"
)

// names are those that are bound, the last one of a name counting.
type names struct {
	bound []api.Bound
}

// class tells whether a name is a function's, and whether it is bound.
func (n names) class(name string) (bool, bool) {
	for _, b := range slices.Backward(n.bound) {
		if b.Name == name {
			return b.Fn, true
		}
	}
	return false, false
}

// bind puts names behind those that are bound.
func (n *names) bind(more ...api.Bound) {
	n.bound = append(n.bound, more...)
}
