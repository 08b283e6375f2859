package array

import (
	"strconv"
	"strings"

	"diaeresis/api"
)

// marked is a print that tells a list of one item from that item.
func marked(a api.Array, s string) string {
	if a.List && len(a.N) == 1 {
		return "," + s
	}
	return s
}

// decimals are the digits of numbers, a blank between.
func decimals(a api.Array) string {
	if len(a.N) == 0 {
		return "⍳0"
	}
	var s strings.Builder
	for i, n := range a.N {
		if i > 0 {
			s.WriteByte(' ')
		}
		s.WriteString(decimal(n))
	}
	return s.String()
}

// decimal turns the library's sign into that of the language.
func decimal(n int64) string {
	return strings.Replace(strconv.FormatInt(n, 10), "-", "¯", 1)
}

// quoted is the text of runes.
func quoted(a api.Array) string {
	var s strings.Builder
	s.WriteByte('\'')
	for _, n := range a.N {
		if n == '\'' {
			s.WriteByte('\'')
		}
		s.WriteRune(rune(n))
	}
	s.WriteByte('\'')
	return s.String()
}
