package array_test

import (
	"math/big"
	"slices"
	"strconv"
	"strings"

	"diaeresis/api"
	"diaeresis/lex"
	"diaeresis/number"
)

// one, list, mark and text are arrays: of a number, of numbers, of a rune, of a
// string's runes.
func one(n int64) api.Array { return api.Array{N: []int64{n}} }

func list(n ...int64) api.Array { return api.Array{List: true, N: n} }

func mark(r int64) api.Array { return api.Array{Runes: true, N: []int64{r}} }

func text(s string) api.Array {
	a := api.Array{List: true, Runes: true}
	for _, r := range s {
		a.N = append(a.N, int64(r))
	}
	return a
}

// long is a list of n numbers, all alike.
func long(n int, item int64) api.Array {
	return api.Array{List: true, N: slices.Repeat([]int64{item}, n)}
}

// asRunes is the same with Runes, right or not.
func asRunes(a api.Array) api.Array {
	a.Runes = true
	return a
}

// equal is whether the two are the same, with no care for what is nil.
func equal(a, b api.Array) bool {
	if a.List != b.List || a.Runes != b.Runes || len(a.N) != len(b.N) {
		return false
	}
	for i, n := range a.N {
		if n != b.N[i] {
			return false
		}
	}
	return true
}

// modelRight is the chapter's word of arrays.
func modelRight(a api.Array) bool {
	if !a.List && len(a.N) != 1 || len(a.N) > 200 {
		return false
	}
	for _, n := range a.N {
		if a.Runes && (n < 0 || n > 0x10ffff || n >= 0xd800 && n <= 0xdfff) {
			return false
		}
	}
	return true
}

// modelPrint is an array's print.
func modelPrint(a api.Array) string {
	if !modelRight(a) {
		return ""
	}
	var words []string
	for _, n := range a.N {
		switch {
		case a.Runes:
			words = append(words, strings.ReplaceAll(string([]rune{rune(n)}), "'", "''"))
		case n < 0:
			words = append(words, "¯"+new(big.Int).Abs(big.NewInt(n)).String())
		default:
			words = append(words, big.NewInt(n).String())
		}
	}
	s := strings.Join(words, " ")
	if a.Runes {
		s = "'" + strings.Join(words, "") + "'"
	} else if len(words) == 0 {
		s = "⍳0"
	}
	if a.List && len(words) == 1 {
		s = "," + s
	}
	return s
}

// spread is an array's items, as many as are asked for.
func spread(a api.Array, n int) []int64 {
	if a.List {
		return a.N
	}
	return slices.Repeat(a.N, n)
}

// modelMon is what Mon answers.
func modelMon(g string, a api.Array) (api.Array, api.Errno) {
	if !modelRight(a) {
		return api.Array{}, api.ErrArray
	}
	if !number.IsMon(g) {
		return api.Array{}, api.ErrDomain
	}
	if a.Runes && len(a.N) > 0 {
		return api.Array{}, api.ErrDomain
	}
	c := api.Array{List: a.List}
	for _, y := range a.N {
		n, e := number.Mon(g, y)
		if e != 0 {
			return api.Array{}, e
		}
		c.N = append(c.N, n)
	}
	return c, 0
}

// modelItem is what comes of two items, with whether they are runes.
func modelItem(g string, x int64, xRune bool, y int64, yRune bool) (int64, api.Errno) {
	same := x == y && xRune == yRune
	switch {
	case g == "=" && same, g == "≠" && !same:
		return 1, 0
	case g == "=", g == "≠":
		return 0, 0
	case xRune || yRune:
		return 0, api.ErrDomain
	}
	return number.Dy(g, x, y)
}

// modelDy is what Dy answers.
func modelDy(g string, a, b api.Array) (api.Array, api.Errno) {
	if !modelRight(a) || !modelRight(b) {
		return api.Array{}, api.ErrArray
	}
	if !number.IsDy(g) {
		return api.Array{}, api.ErrDomain
	}
	if a.List && b.List && len(a.N) != len(b.N) {
		return api.Array{}, api.ErrLength
	}
	if g != "=" && g != "≠" && (a.Runes && len(a.N) > 0 || b.Runes && len(b.N) > 0) {
		return api.Array{}, api.ErrDomain
	}
	x, y := spread(a, len(b.N)), spread(b, len(a.N))
	c := api.Array{List: a.List || b.List}
	for i := range x {
		n, e := modelItem(g, x[i], a.Runes, y[i], b.Runes)
		if e != 0 {
			return api.Array{}, e
		}
		c.N = append(c.N, n)
	}
	return c, 0
}

// modelLiteral is what Literal answers, by the tokens of the text.
func modelLiteral(kind int, s string) (api.Array, api.Errno) {
	l := lex.Line(s)
	switch kind {
	case api.NodeNumber:
		return modelNumbers(l)
	case api.NodeText:
		if len(l) == 1 && l[0].Kind == api.TokText {
			return modelRunes(s)
		}
	}
	return api.Array{}, api.ErrArray
}

// modelNumbers is of tokens that are numbers and blanks, by turns, and are
// written as their glyphs are.
func modelNumbers(l []api.Token) (api.Array, api.Errno) {
	var n []int64
	for i, x := range l {
		switch {
		case i%2 == 1 && x.Text == " ":
		case i%2 == 0 && x.Kind == api.TokNumber && x.Text == x.Glyph:
			v, _ := strconv.ParseInt(strings.ReplaceAll(x.Glyph, "¯", "-"), 10, 64)
			n = append(n, v)
		default:
			return api.Array{}, api.ErrArray
		}
	}
	if len(l)%2 == 0 {
		return api.Array{}, api.ErrArray
	}
	return modelCounted(api.Array{List: len(n) != 1, N: n})
}

// modelRunes is of a text's token.
func modelRunes(s string) (api.Array, api.Errno) {
	a := text(strings.ReplaceAll(s[1:len(s)-1], "''", "'"))
	a.List = len(a.N) != 1
	return modelCounted(a)
}

// modelCounted is of as many items as there may be.
func modelCounted(a api.Array) (api.Array, api.Errno) {
	if len(a.N) > 200 {
		return api.Array{}, api.ErrLimit
	}
	return a, 0
}
