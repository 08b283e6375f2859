package array

import (
	"slices"
	"unicode/utf8"

	"diaeresis/api"
)

// allRight tells whether all of them are arrays: of numbers any is right.
func allRight(arrays ...api.Array) bool {
	for _, a := range arrays {
		if !counts(a) || a.Runes && slices.ContainsFunc(a.N, isNoRune) {
			return false
		}
	}
	return true
}

// counts tells whether there are as many items as there may be.
func counts(a api.Array) bool {
	if a.List {
		return len(a.N) <= api.MaxItems
	}
	return len(a.N) == 1
}

// isNoRune holds the number against itself as a rune first, as that has fewer
// bits.
func isNoRune(n int64) bool {
	r := rune(n)
	return int64(r) != n || !utf8.ValidRune(r)
}

// anyRunes tells whether one of them has runes: Runes without items are none.
func anyRunes(arrays ...api.Array) bool {
	for _, a := range arrays {
		if a.Runes && len(a.N) > 0 {
			return true
		}
	}
	return false
}
