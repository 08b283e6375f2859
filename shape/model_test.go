package shape_test

import (
	"math/big"
	"slices"

	"diaeresis/api"
)

// one, list, mark and text are arrays: of a number, of numbers, of a rune, of a
// string's runes.
func one(n int64) api.Array { return api.Array{N: []int64{n}} }

func list(n ...int64) api.Array { return api.Array{List: true, N: n} }

func mark(r int64) api.Array { return api.Array{Runes: true, N: []int64{r}} }

func text(s string) api.Array {
	a := api.Array{List: true, Runes: true}
	for _, r := range s {
		a.N = append(a.N, int64(r))
	}
	return a
}

// long is a list of the numbers from 1 up to n.
func long(n int64) api.Array {
	a := list()
	for i := range n {
		a.N = append(a.N, i+1)
	}
	return a
}

// asRunes is the same with Runes, right or not.
func asRunes(a api.Array) api.Array {
	a.Runes = true
	return a
}

// equal is whether the two are the same, with no care for what is nil.
func equal(a, b api.Array) bool {
	return a.List == b.List && a.Runes == b.Runes && slices.Equal(a.N, b.N)
}

// modelRight is chapter 11's word of arrays.
func modelRight(a api.Array) bool {
	if !a.List && len(a.N) != 1 || len(a.N) > 200 {
		return false
	}
	for _, n := range a.N {
		if a.Runes && (n < 0 || n > 0x10ffff || n >= 0xd800 && n <= 0xdfff) {
			return false
		}
	}
	return true
}

// at is an array's item of a place, a fill where there is none.
func at(b api.Array, i int) int64 {
	switch {
	case i >= 0 && i < len(b.N):
		return b.N[i]
	case b.Runes:
		return 0x20
	}
	return 0
}

// pick is a list, like an array, of its items of some places.
func pick(b api.Array, places ...int) api.Array {
	c := api.Array{List: true, Runes: b.Runes}
	for _, i := range places {
		c.N = append(c.N, at(b, i))
	}
	return c
}

// span are the places from one on up to another.
func span(from, to int) []int {
	var l []int
	for i := from; i < to; i++ {
		l = append(l, i)
	}
	return l
}

// modelMon is what Mon answers.
func modelMon(g string, b api.Array) (api.Array, api.Errno) {
	if !modelRight(b) {
		return api.Array{}, api.ErrArray
	}
	all := len(b.N)
	switch g {
	case "⍴":
		if b.List {
			return list(int64(all)), 0
		}
		return list(), 0
	case "⍳":
		return modelUpTo(b)
	case ",":
		return pick(b, span(0, all)...), 0
	case "⌽":
		c := pick(b, span(0, all)...)
		slices.Reverse(c.N)
		c.List = b.List
		return c, 0
	case "↑":
		return api.Array{Runes: b.Runes, N: []int64{at(b, 0)}}, 0
	case "≢":
		return one(int64(all)), 0
	}
	return api.Array{}, api.ErrDomain
}

// modelUpTo is of `⍳`.
func modelUpTo(b api.Array) (api.Array, api.Errno) {
	if len(b.N) != 1 {
		return api.Array{}, api.ErrRank
	}
	if b.Runes || b.N[0] < 0 {
		return api.Array{}, api.ErrDomain
	}
	if b.N[0] > 200 {
		return api.Array{}, api.ErrLimit
	}
	return long(b.N[0]), 0
}

// modelDy is what Dy answers.
func modelDy(g string, a, b api.Array) (api.Array, api.Errno) {
	if !modelRight(a) || !modelRight(b) {
		return api.Array{}, api.ErrArray
	}
	switch g {
	case "⍳":
		return modelPlaces(a, b)
	case ",":
		return modelJoined(a, b)
	case "≢":
		if equal(a, b) {
			return one(0), 0
		}
		return one(1), 0
	case "⍴", "⌽", "↑", "↓":
		return modelNumbered(g, a, b)
	}
	return api.Array{}, api.ErrDomain
}

// modelPlaces is of `⍳`: the places are gone through from behind, so that the
// first one is the last to be kept.
func modelPlaces(a, b api.Array) (api.Array, api.Errno) {
	if !a.List {
		return api.Array{}, api.ErrRank
	}
	c := api.Array{List: b.List}
	for _, n := range b.N {
		found := len(a.N) + 1
		for i := len(a.N); i > 0; i-- {
			if a.N[i-1] == n && a.Runes == b.Runes {
				found = i
			}
		}
		c.N = append(c.N, int64(found))
	}
	return c, 0
}

// modelJoined is of `,`.
func modelJoined(a, b api.Array) (api.Array, api.Errno) {
	c := api.Array{List: true, Runes: a.Runes, N: slices.Concat(a.N, b.N)}
	switch {
	case len(a.N) > 0 && len(b.N) > 0:
		if a.Runes != b.Runes {
			return api.Array{}, api.ErrDomain
		}
	case len(b.N) > 0:
		c.Runes = b.Runes
	case len(a.N) == 0:
		c.Runes = a.Runes && b.Runes
	}
	if len(c.N) > 200 {
		return api.Array{}, api.ErrLimit
	}
	return c, 0
}

// modelNumbered is of the functions whose left array is one number.
func modelNumbered(g string, a, b api.Array) (api.Array, api.Errno) {
	if len(a.N) != 1 {
		return api.Array{}, api.ErrRank
	}
	n := a.N[0]
	if a.Runes || g == "⍴" && n < 0 {
		return api.Array{}, api.ErrDomain
	}
	if (g == "⍴" || g == "↑") && (n > 200 || n < -200) {
		return api.Array{}, api.ErrLimit
	}
	all := len(b.N)
	switch g {
	case "⍴":
		if n > 0 && all == 0 {
			return api.Array{}, api.ErrLength
		}
		c := pick(b)
		for i := range int(n) {
			c.N = append(c.N, b.N[i%all])
		}
		return c, 0
	case "⌽":
		return modelTurned(n, b), 0
	case "↑":
		if n < 0 {
			return pick(b, span(all+int(n), all)...), 0
		}
		return pick(b, span(0, int(n))...), 0
	}
	return modelDropped(n, b), 0
}

// modelTurned is of `⌽`.
func modelTurned(n int64, b api.Array) api.Array {
	c := api.Array{List: b.List, Runes: b.Runes}
	all := big.NewInt(int64(len(b.N)))
	for i := range len(b.N) {
		place := new(big.Int).Add(big.NewInt(n), big.NewInt(int64(i)))
		c.N = append(c.N, b.N[place.Mod(place, all).Int64()])
	}
	return c
}

// modelDropped is of `↓`: of each item by its place whether it stays.
func modelDropped(n int64, b api.Array) api.Array {
	c := pick(b)
	for i, x := range b.N {
		if n >= 0 && int64(i) >= n || n < 0 && int64(i-len(b.N)) < n {
			c.N = append(c.N, x)
		}
	}
	return c
}
