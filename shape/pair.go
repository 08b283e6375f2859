package shape

import (
	"slices"

	"diaeresis/api"
)

// pair is two arrays that a function looks at, the right one's fields its own.
type pair struct {
	left api.Array
	api.Array
}

// part is the list of the right one's items from a place on up to another. Its
// memory is the right one's.
func (p pair) part(from, to int64) api.Array {
	return api.Array{List: true, Runes: p.Runes, N: p.N[from:to:to]}
}

// cut is the list of the right one's first n items, or, of n below 0, of its
// last ones, and that of the others.
func (p pair) cut(n int64) (taken, others api.Array) {
	all := int64(len(p.N))
	if n < 0 {
		at := max(all+n, 0)
		return p.part(at, all), p.part(0, at)
	}
	at := min(n, all)
	return p.part(0, at), p.part(at, all)
}

// fills is a list of what stands where n items of the right one are missing.
func (p pair) fills(n int) api.Array {
	return api.Array{List: true, Runes: p.Runes, N: slices.Repeat([]int64{Fill(p.Runes)}, n)}
}

// join is the list of the items of all, in memory of its own.
func join(arrays ...api.Array) api.Array {
	n := 0
	for _, a := range arrays {
		n += len(a.N)
	}
	made := blank(true, areRunes(arrays...), n)
	at := 0
	for _, a := range arrays {
		at += copy(made.N[at:], a.N)
	}
	return made
}

// areRunes tells whether what is joined of them has Runes: one that has no items
// has a say only if none has any.
func areRunes(arrays ...api.Array) bool {
	all := true
	for _, a := range arrays {
		if a.Runes && len(a.N) > 0 {
			return true
		}
		all = all && a.Runes
	}
	return all
}

// blank is an array of a form, whose n items are to be set.
func blank(isList, runes bool, n int) api.Array {
	return api.Array{List: isList, Runes: runes, N: make([]int64, n)}
}

// one is the array of that number alone.
func one(n int) api.Array {
	return api.Array{N: []int64{int64(n)}}
}

// number is the number that is an array's only item.
func number(a api.Array) (int64, error) {
	switch {
	case len(a.N) != 1:
		return 0, fault(api.ErrRank)
	case a.Runes:
		return 0, fault(api.ErrDomain)
	}
	return a.N[0], nil
}

// count is the number that is an array's only item, if an array may have as many
// items.
func count(a api.Array) (int, error) {
	n, err := number(a)
	switch {
	case err != nil:
		return 0, err
	case n < 0:
		return 0, fault(api.ErrDomain)
	case n > api.MaxItems:
		return 0, fault(api.ErrLimit)
	}
	return int(n), nil
}
