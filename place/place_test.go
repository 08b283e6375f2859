package place_test

import (
	"math"
	"slices"
	"strings"
	"testing"
	"unicode/utf8"

	"diaeresis/api"
	"diaeresis/place"
)

var units = []int{api.UnitByte, api.UnitRune, api.UnitWide}

// runes are some of one to four bytes, and the edges of what is UTF-8.
var runes = []string{
	"a", "\x00", "\r", "\x7f",
	"\xc2\x80", "é", "\xdf\xbf",
	"\xe0\xa0\x80", "←", "\xed\x9f\xbf", "\xee\x80\x80", "\xef\xbb\xbf", "\xef\xbf\xbd", "\xef\xbf\xbf",
	"\xf0\x90\x80\x80", "😀", "\xf4\x8f\xbf\xbf",
}

// wrong are bytes that are no runes, each alone: not in the shortest form,
// surrogates, past 10ffff, broken off, of no form at all.
var wrong = []string{
	"\x80", "\x85", "\xbf", "\xc0\x80", "\xc1\xbf", "\xe0\x80\x80", "\xe0\x9f\xbf", "\xf0\x80\x80\x80", "\xf0\x8f\xbf\xbf",
	"\xed\xa0\x80", "\xed\xbf\xbf", "\xed\xa0\x80\xed\xb0\x80",
	"\xf4\x90\x80\x80", "\xf5\x80\x80\x80", "\xf8\x88\x80\x80\x80", "\xfe", "\xff",
	"\xc2", "\xe2\x86", "\xe2", "\xf0\x9f\x98", "\xf0\x9f", "\xf0",
}

// bytesOf are a text's bytes, each alone.
func bytesOf(s string) []string {
	var alone []string
	for i := range len(s) {
		alone = append(alone, s[i:i+1])
	}
	return alone
}

// spot is where a place stands.
type spot struct {
	line, col int
}

// model is what is to be told of a text of some pieces, by a unit.
type model struct {
	text   string
	lines  []int
	bodies []string
	spots  map[int]spot // of each place that is one
	widths []int
}

// columns are how many a piece has.
func columns(piece string, unit int) int {
	switch {
	case unit == api.UnitByte:
		return len(piece)
	case unit == api.UnitWide && len(piece) == 4:
		return 2
	}
	return 1
}

// modelOf lays the pieces one behind the other, each of them a rune, or a byte
// alone.
func modelOf(unit int, pieces []string) model {
	m := model{lines: []int{0}, spots: map[int]spot{}}
	var x spot
	for _, p := range pieces {
		at := len(m.text)
		m.spots[at] = x
		for i := range len(p) {
			if unit == api.UnitByte {
				m.spots[at+i] = spot{x.line, x.col + i}
			}
		}
		m.text += p
		if p == "\n" {
			m.bodies = append(m.bodies, m.text[m.lines[x.line]:at])
			m.widths = append(m.widths, x.col)
			m.lines = append(m.lines, len(m.text))
			x = spot{line: x.line + 1}
			continue
		}
		x.col += columns(p, unit)
	}
	m.spots[len(m.text)] = x
	m.bodies = append(m.bodies, m.text[m.lines[x.line]:])
	m.widths = append(m.widths, x.col)
	return m
}

// check holds all calls against the model, at all places, lines and columns,
// and some that there are not.
func check(t *testing.T, pieces []string) {
	t.Helper()
	for _, unit := range units {
		m := modelOf(unit, pieces)
		m.checkLines(t, unit)
		m.checkPlaces(t, unit)
		m.checkColumns(t, unit)
	}
}

func (m model) checkLines(t *testing.T, unit int) {
	t.Helper()
	if got := place.Lines(m.text); !slices.Equal(got, m.lines) {
		t.Fatalf("Lines(%q): %v, not %v", m.text, got, m.lines)
	}
	for n := -2; n < len(m.lines)+2; n++ {
		body, width, e := "", 0, api.ErrPlace
		if n >= 0 && n < len(m.lines) {
			body, width, e = m.bodies[n], m.widths[n], api.OK
		}
		if got, f := place.Line(m.text, n); got != body || f != e {
			t.Fatalf("Line(%q, %d): %q, %d, not %q, %d", m.text, n, got, f, body, e)
		}
		if got, f := place.Width(m.text, n, unit); got != width || f != e {
			t.Fatalf("Width(%q, %d, %d): %d, %d, not %d, %d", m.text, n, unit, got, f, width, e)
		}
	}
}

func (m model) checkPlaces(t *testing.T, unit int) {
	t.Helper()
	for at := -2; at < len(m.text)+3; at++ {
		x, ok := m.spots[at]
		e := api.ErrPlace
		if ok {
			e = api.OK
		}
		if n, col, f := place.At(m.text, at, unit); (spot{n, col}) != x || f != e {
			t.Fatalf("At(%q, %d, %d): %d, %d, %d, not %v, %d", m.text, at, unit, n, col, f, x, e)
		}
	}
}

func (m model) checkColumns(t *testing.T, unit int) {
	t.Helper()
	places := map[spot]int{}
	for at, x := range m.spots {
		places[x] = at
	}
	if len(places) != len(m.spots) {
		t.Fatalf("%q: the model is not one to one", m.text)
	}
	for n := -2; n < len(m.lines)+2; n++ {
		for col := -2; col < slices.Max(m.widths)+3; col++ {
			at, ok := places[spot{n, col}]
			e := api.ErrPlace
			if ok {
				e = api.OK
			}
			if got, f := place.Offset(m.text, n, col, unit); got != at || f != e {
				t.Fatalf("Offset(%q, %d, %d, %d): %d, %d, not %d, %d", m.text, n, col, unit, got, f, at, e)
			}
		}
	}
}

// P2.1, P2.2: the document's example.
func TestExample(t *testing.T) {
	s := "a←1\nb"
	for i, want := range []int{4, 2, 2} {
		if n, col, e := place.At(s, 4, units[i]); n != 0 || col != want || e != api.OK {
			t.Errorf("At of unit %d: %d, %d, %d", units[i], n, col, e)
		}
		if at, e := place.Offset(s, 0, want, units[i]); at != 4 || e != api.OK {
			t.Errorf("Offset of unit %d: %d, %d", units[i], at, e)
		}
	}
}

// P2.1 to P2.3: line ends at all ends of a text, and none.
func TestLineEnds(t *testing.T) {
	for _, s := range []string{"", "\n", "\n\n\n", "a", "a\n", "\na", "ab\ncd", "ab\n\ncd\n", "a\r\nb", "a\vb\fc"} {
		check(t, bytesOf(s))
	}
	// Other runes that end lines elsewhere end none here.
	check(t, []string{"a", "\u0085", "b", "\u2028", "c", "\u2029", "\r", "d"})
}

// P2.1 to P2.3: each rune, alone, among others, and at a line's ends.
func TestRunes(t *testing.T) {
	for _, r := range runes {
		check(t, []string{r})
		check(t, []string{r, r, "\n", r})
		check(t, []string{"x", r, "\n", r, "😀", r, "é", "\n"})
	}
	check(t, runes)
}

// P2.1 to P2.3: what is no rune is bytes, each of one column, whatever stands
// around it.
func TestBytesAlone(t *testing.T) {
	for _, s := range wrong {
		for _, around := range []string{"", "a", "\n", "←", "😀"} {
			var pieces []string
			if around != "" {
				pieces = append(pieces, around)
			}
			pieces = append(pieces, bytesOf(s)...)
			if around != "" {
				pieces = append(pieces, around)
			}
			check(t, pieces)
		}
	}
	// A line end breaks a rune off: what is behind it goes on with none.
	check(t, []string{"\xe2", "\x86", "\n", "\x90"})
	check(t, []string{"\xf0", "\x9f", "\n", "\x98", "\x80"})
}

// cut parts a text into runes and bytes alone, as the library does.
func cut(s string) []string {
	var pieces []string
	for len(s) > 0 {
		_, n := utf8.DecodeRuneInString(s)
		pieces = append(pieces, s[:n])
		s = s[n:]
	}
	return pieces
}

// P2.1 to P2.3: texts of any bytes.
func TestAnyTexts(t *testing.T) {
	state := uint32(7)
	below := func(n int) int {
		state = state*1664525 + 1013904223
		return int(state>>8) % n
	}
	parts := append(append([]string{"\n", "\n", "b", "1"}, runes...), wrong...)
	for range 400 {
		var s strings.Builder
		for range below(25) {
			p := parts[below(len(parts))]
			s.WriteString(p[below(len(p)):])
		}
		check(t, cut(s.String()))
	}
}

// P2.1, P2.2: numbers of all sizes; of no unit ErrArg, whatever else is wrong.
func TestNumbers(t *testing.T) {
	wide := []int{math.MinInt, math.MinInt + 1, -1 << 32, -1, 0, 1, 4, 99, 1 << 32, math.MaxInt - 1, math.MaxInt}
	for _, s := range []string{"", "a←1\n\n😀\xffb", "\xe2\x86"} {
		for _, unit := range append(wide[:len(wide):len(wide)], units...) {
			e := api.ErrArg
			if slices.Contains(units, unit) {
				e = api.ErrPlace
			}
			for _, n := range []int{math.MinInt, -1 << 32, -1, 99, 1 << 32, math.MaxInt} {
				for _, col := range wide {
					if at, f := place.Offset(s, n, col, unit); at != 0 || f != e {
						t.Errorf("Offset(%q, %d, %d, %d): %d, %d", s, n, col, unit, at, f)
					}
				}
				if line, col, f := place.At(s, n, unit); line != 0 || col != 0 || f != e {
					t.Errorf("At(%q, %d, %d): %d, %d, %d", s, n, unit, line, col, f)
				}
				if at, f := place.Offset(s, 0, n, unit); at != 0 || f != e {
					t.Errorf("Offset(%q, 0, %d, %d): %d, %d", s, n, unit, at, f)
				}
				if col, f := place.Width(s, n, unit); col != 0 || f != e {
					t.Errorf("Width(%q, %d, %d): %d, %d", s, n, unit, col, f)
				}
				if l, f := place.Line(s, n); l != "" || f != api.ErrPlace {
					t.Errorf("Line(%q, %d): %q, %d", s, n, l, f)
				}
			}
		}
	}
	for _, unit := range []int{0, 4, -1, math.MinInt, math.MaxInt} {
		if col, e := place.Width("a", 0, unit); col != 0 || e != api.ErrArg {
			t.Errorf("Width of unit %d: %d, %d", unit, col, e)
		}
		if n, col, e := place.At("\na", 1, unit); n != 0 || col != 0 || e != api.ErrArg {
			t.Errorf("At of unit %d: %d, %d, %d", unit, n, col, e)
		}
		if at, e := place.Offset("a", 0, 1, unit); at != 0 || e != api.ErrArg {
			t.Errorf("Offset of unit %d: %d, %d", unit, at, e)
		}
	}
}

// P2.1, P2.2: a long text, of many lines and of one.
func TestLong(t *testing.T) {
	const many = 200000
	s := strings.Repeat("😀\n", many)
	if l := place.Lines(s); len(l) != many+1 || l[many] != len(s) || l[1] != 5 {
		t.Errorf("Lines: %d", len(l))
	}
	if n, col, e := place.At(s, len(s)-1, api.UnitWide); n != many-1 || col != 2 || e != api.OK {
		t.Errorf("At: %d, %d, %d", n, col, e)
	}
	if at, e := place.Offset(s, many-1, 1, api.UnitRune); at != len(s)-1 || e != api.OK {
		t.Errorf("Offset: %d, %d", at, e)
	}
	s = strings.Repeat("😀", many)
	if x, e := place.Width(s, 0, api.UnitWide); x != 2*many || e != api.OK {
		t.Errorf("Width: %d, %d", x, e)
	}
}

// R3: what is answered is new memory, its spare room too.
func TestNewMemory(t *testing.T) {
	const s = "a\nb\nc\nd\ne"
	a, b := place.Lines(s), place.Lines(s)
	_ = append(a, -1)
	for i := range a {
		a[i] = -1
	}
	if want := []int{0, 2, 4, 6, 8}; !slices.Equal(b, want) || !slices.Equal(place.Lines(s), want) {
		t.Errorf("Lines: %v, %v", b, place.Lines(s))
	}
}
