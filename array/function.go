package array

import (
	"diaeresis/api"
	"diaeresis/number"
)

// ofOne goes through an array beside itself: the function looks at one side
// alone.
func ofOne(g string, a api.Array) (api.Array, error) {
	switch {
	case !allRight(a):
		return api.Array{}, wrong{g, fault(api.ErrArray)}
	case !number.IsMon(g) || anyRunes(a):
		return api.Array{}, wrong{g, fault(api.ErrDomain)}
	}
	return pair{a, a}.through(func(_, y int64) (int64, api.Errno) {
		return number.Mon(g, y)
	})
}

// ofTwo goes through two arrays.
func ofTwo(g string, a, b api.Array) (api.Array, error) {
	p := pair{a, b}
	switch {
	case !allRight(a, b):
		return api.Array{}, wrong{g, fault(api.ErrArray)}
	case !number.IsDy(g):
		return api.Array{}, wrong{g, fault(api.ErrDomain)}
	case p.differ():
		return api.Array{}, wrong{g, fault(api.ErrLength)}
	case !takesRunes(g) && anyRunes(a, b):
		return api.Array{}, wrong{g, fault(api.ErrDomain)}
	}
	return p.through(p.function(g))
}

// takesRunes tells whether a function of two is one of runes, too.
func takesRunes(g string) bool {
	return g == "=" || g == "≠"
}

// function is the pair's function of two: a rune and a number are held against
// each other as 0 and 1 are, which are not equal, whatever they are themselves.
func (p pair) function(g string) function {
	if p.Runes != p.right.Runes {
		return func(int64, int64) (int64, api.Errno) {
			return number.Dy(g, 0, 1)
		}
	}
	return func(x, y int64) (int64, api.Errno) {
		return number.Dy(g, x, y)
	}
}
