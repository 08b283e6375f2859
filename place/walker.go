package place

import (
	"iter"
	"unicode/utf8"

	"diaeresis/api"
)

// measure is what a unit makes of a line: how many bytes are taken at once, and
// how many columns so many bytes are.
type measure struct {
	step  func(rest string) int
	width func(size int) int
}

// measures are the units'.
func measures() map[int]measure {
	return map[int]measure{
		api.UnitByte: {step: func(string) int { return 1 }, width: one},
		api.UnitRune: {step: runeSize, width: one},
		api.UnitWide: {step: runeSize, width: wide},
	}
}

// runeSize is how many bytes the rune has that a text begins with, or 1, where
// none begins: the library takes for a rune what chapter 2 does.
func runeSize(rest string) int {
	_, size := utf8.DecodeRuneInString(rest)
	return size
}

func one(int) int { return 1 }

// wide is 2 for a rune of four bytes, as of UTF-16 it has two halves.
func wide(size int) int {
	if size == utf8.UTFMax {
		return 2
	}
	return 1
}

// stop is a place that a unit can tell, and its column.
type stop struct {
	at, col int
}

// walker goes through a text's lines by a unit's measure.
type walker struct {
	text
	measure
}

// walk is the walker of a text and a unit.
func walk(s string, unit int) (walker, error) {
	m, ok := measures()[unit]
	if !ok {
		return walker{}, noUnit()
	}
	return walker{text{s}, m}, nil
}

// walkLine is that, and the line of a number.
func walkLine(s string, n, unit int) (walker, span, error) {
	w, err := walk(s, unit)
	if err != nil {
		return walker{}, span{}, err
	}
	l, err := w.line(n)
	return w, l, err
}

// stops goes through a line's places, up to its end, that too.
func (w walker) stops(l span) iter.Seq[stop] {
	return func(yield func(stop) bool) {
		x := stop{at: l.from}
		for x.at < l.to {
			if !yield(x) {
				return
			}
			size := w.step(w.bytes[x.at:l.to])
			x.at += size
			x.col += w.width(size)
		}
		yield(x)
	}
}

// find is the stop of a line that is neither ahead of what is looked for (which
// tells a number below 0) nor past it. It is told the order, not a distance, as
// a distance may wrap round.
func (w walker) find(l span, order func(stop) int) (stop, error) {
walk:
	for x := range w.stops(l) {
		switch o := order(x); {
		case o == 0:
			return x, nil
		case o > 0:
			break walk
		}
	}
	return stop{}, noPlace()
}
