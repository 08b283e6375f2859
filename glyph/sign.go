package glyph

import (
	"iter"
	"sync"

	"diaeresis/api"
)

// sign is a glyph, its digraph, if it has one, and its class. The zero sign is
// none.
type sign struct {
	glyph   string
	digraph string
	class   int
}

var table = [...]sign{
	{"+", "", api.ClassFn},
	{"-", "", api.ClassFn},
	{"×", "`x", api.ClassFn},
	{"÷", "`d", api.ClassFn},
	{"⌈", "`u", api.ClassFn},
	{"⌊", "`n", api.ClassFn},
	{"|", "", api.ClassFn},
	{"=", "", api.ClassFn},
	{"≠", "`q", api.ClassFn},
	{"<", "", api.ClassFn},
	{">", "", api.ClassFn},
	{"≤", "`l", api.ClassFn},
	{"≥", "`g", api.ClassFn},
	{"∧", "`a", api.ClassFn},
	{"∨", "`o", api.ClassFn},
	{"~", "", api.ClassFn},
	{"⍴", "`r", api.ClassFn},
	{"⍳", "`i", api.ClassFn},
	{",", "", api.ClassFn},
	{"⌽", "`t", api.ClassFn},
	{"↑", "`k", api.ClassFn},
	{"↓", "`j", api.ClassFn},
	{"≢", "`m", api.ClassFn},
	{"/", "", api.ClassOp},
	{"\\", "", api.ClassOp},
	{"¨", "`e", api.ClassOp},
	{"⍨", "`c", api.ClassOp},
	{"←", "`s", api.ClassSign},
	{"⋄", "`z", api.ClassSign},
	{":", "", api.ClassSign},
	{"{", "", api.ClassSign},
	{"}", "", api.ClassSign},
	{"(", "", api.ClassSign},
	{")", "", api.ClassSign},
	{"⍺", "`p", api.ClassArg},
	{"⍵", "`w", api.ClassArg},
	{"¯", "`h", api.ClassMinus},
	{"⍝", "`b", api.ClassRemark},
}

// signs goes through the table. It reads row by row, as the table at once would
// be copied.
func signs() iter.Seq[sign] {
	return func(yield func(sign) bool) {
		for i := range table {
			if !yield(table[i]) {
				return
			}
		}
	}
}

// signOf is the sign of a glyph, the zero sign of what is none.
func signOf(g string) sign {
	for x := range signs() {
		if x.glyph == g {
			return x
		}
	}
	return sign{}
}

var (
	once    sync.Once
	byGlyph map[string]int
)

// fill makes the map of the glyphs' classes. It is for Classes alone: what else
// is told of a glyph hangs on no variable that is filled on the way.
func fill() {
	byGlyph = make(map[string]int, len(table))
	for x := range signs() {
		byGlyph[x.glyph] = x.class
	}
}

// drawn is how a sign stands in a text with glyphs.
func drawn(x sign) string {
	return x.glyph
}

// typed is how a sign stands in a text with digraphs.
func typed(x sign) string {
	if x.digraph == "" {
		return x.glyph
	}
	return x.digraph
}
