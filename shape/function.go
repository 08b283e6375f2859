package shape

import (
	"diaeresis/api"
	"diaeresis/array"
)

// maker makes an array of a pair.
type maker func(pair) (api.Array, error)

// functions are a glyph's, nil of those that it has not.
type functions struct {
	ofOne maker
	ofTwo maker
}

// find is what a glyph has.
func find(g string) functions {
	return map[string]functions{
		"⍴": {pair.lengths, pair.repeated},
		"⍳": {pair.upTo, pair.places},
		",": {pair.listed, pair.joined},
		"⌽": {pair.reversed, pair.turned},
		"↑": {pair.first, pair.taken},
		"↓": {nil, pair.dropped},
		"≢": {pair.counted, pair.differs},
	}[g]
}

// apply is what a function makes of one array or of two, or what is wrong. One
// array stands on both sides, as its function looks at the right one alone.
func apply(g string, do maker, arrays ...api.Array) (made api.Array, err error) {
	if !allRight(arrays...) {
		err = fault(api.ErrArray)
		goto out
	}
	if do == nil {
		err = fault(api.ErrDomain)
		goto out
	}
	made, err = do(pair{arrays[0], arrays[len(arrays)-1]})
	if err == nil {
		return made, nil
	}
out:
	return api.Array{}, wrong{g, err}
}

// allRight tells whether all of them are arrays.
func allRight(arrays ...api.Array) bool {
	for _, a := range arrays {
		if !array.Right(a) {
			return false
		}
	}
	return true
}
