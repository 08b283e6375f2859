package array

import (
	"iter"
	"strings"

	"diaeresis/api"
)

// maxDigits is how many digits a number's token has at most (chapter 4).
const maxDigits = 18

// literal reads a text as its kind's reader does.
func literal(kind int, text string) (api.Array, error) {
	read, ok := reader(kind)
	if !ok {
		return api.Array{}, fault(api.ErrArray)
	}
	a, err := read(text)
	if err != nil {
		err = wrong{text, err}
	}
	return a, err
}

// reader is that of a kind's literals, and whether there is one.
func reader(kind int) (func(string) (api.Array, error), bool) {
	read, ok := map[int]func(string) (api.Array, error){
		api.NodeNumber: func(text string) (api.Array, error) { return numbers(text) },
		api.NodeText:   func(text string) (api.Array, error) { return runes(text) },
	}[kind]
	return read, ok
}

// gathering is a literal's items: no more are kept than there may be, as all
// that is behind must be gone through all the same.
type gathering struct {
	items []int64
	many  bool
}

func (g *gathering) add(n int64) {
	if len(g.items) == api.MaxItems {
		g.many = true
		return
	}
	g.items = append(g.items, n)
}

// array is that of the items, without the room behind them.
func (g *gathering) array(runes bool) (api.Array, error) {
	n := len(g.items)
	if g.many {
		return api.Array{}, fault(api.ErrLimit)
	}
	return api.Array{List: n != 1, Runes: runes, N: g.items[:n:n]}, nil
}

// numbers reads a NodeNumber's text.
func numbers(text string) (api.Array, error) {
	var g gathering
	for word := range words(text) {
		n, ok := value(word)
		if !ok {
			return api.Array{}, fault(api.ErrArray)
		}
		g.add(n)
	}
	return g.array(false)
}

// words goes through what single blanks part: between two of them, too, stands
// a word, an empty one.
func words(text string) iter.Seq[string] {
	return func(yield func(string) bool) {
		left, more := text, true
		for more {
			var word string
			word, left, more = strings.Cut(left, " ")
			if !yield(word) {
				return
			}
		}
	}
}

// value is a number's, and whether the word is a number as tokens tell it.
func value(word string) (int64, bool) {
	digits, below := strings.CutPrefix(word, "¯")
	if digits == "" || len(digits) > maxDigits || digits[0] == '0' && word != "0" {
		return 0, false
	}
	n := int64(0)
	for _, r := range digits {
		if r < '0' || r > '9' {
			return 0, false
		}
		n = n*10 + int64(r-'0')
	}
	if below {
		n = -n
	}
	return n, true
}

// runes reads a NodeText's text.
func runes(text string) (api.Array, error) {
	inner, ok := between(text)
	if !ok {
		return api.Array{}, fault(api.ErrArray)
	}
	var g gathering
	half := false
	for _, r := range inner {
		switch {
		case r == '\'' && !half:
			half = true
		case r != '\'' && half:
			return api.Array{}, fault(api.ErrArray)
		default:
			half = false
			g.add(int64(r))
		}
	}
	if half {
		return api.Array{}, fault(api.ErrArray)
	}
	return g.array(true)
}

// between is what stands between a text's first and last quote, and whether
// there are two.
func between(text string) (string, bool) {
	behind, first := strings.CutPrefix(text, "'")
	inner, last := strings.CutSuffix(behind, "'")
	return inner, first && last
}
