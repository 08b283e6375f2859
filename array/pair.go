package array

import (
	"iter"

	"diaeresis/api"
)

// function is what becomes of an item on the left and one on the right.
type function func(x, y int64) (int64, api.Errno)

// pair is two arrays that a function goes through, the left one's fields its own.
type pair struct {
	api.Array
	right api.Array
}

// differ tells whether the two can't be gone through item by item.
func (p pair) differ() bool {
	return p.List && p.right.List && len(p.N) != len(p.right.N)
}

// length is how many items come of the two: one item has no say beside a list.
func (p pair) length() int {
	if p.List {
		return len(p.N)
	}
	return len(p.right.N)
}

// items goes through the two, up to how many items come of them.
func (p pair) items() iter.Seq2[int64, int64] {
	return func(yield func(int64, int64) bool) {
		for i := range p.length() {
			if !yield(item(p.Array, i), item(p.right, i)) {
				return
			}
		}
	}
}

// item is that of a list, and else always the only one.
func item(a api.Array, i int) int64 {
	if a.List {
		return a.N[i]
	}
	return a.N[0]
}

// through is the array of what becomes of the items, or what is wrong with the
// first ones of which nothing does.
func (p pair) through(do function) (api.Array, error) {
	made := api.Array{List: p.List || p.right.List, N: make([]int64, 0, p.length())}
	var err error
walk:
	for x, y := range p.items() {
		n, e := do(x, y)
		switch e {
		case api.OK:
			made.N = append(made.N, n)
		default:
			made, err = api.Array{}, fault(e)
			break walk
		}
	}
	return made, err
}
