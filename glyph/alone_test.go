package glyph

import (
	"maps"
	"testing"

	"diaeresis/api"
)

// P3.1, P3.2: what the chapter's six functions tell hangs on no variable that
// another call has filled, whatever it holds.
func TestSixAlone(t *testing.T) {
	want := Classes()
	kept := byGlyph
	defer func() { byGlyph = kept }()
	for _, other := range []map[string]int{nil, {}, {"+": api.ClassRemark, "⍴": api.ClassOp, "x": api.ClassFn, "": api.ClassArg}} {
		byGlyph = other
		all := All()
		got := map[string]int{}
		for _, g := range all {
			got[g] = Class(g)
		}
		if len(all) != 38 || !maps.Equal(got, want) {
			t.Errorf("All and Class, with %v kept: %q, %v", other, all, got)
		}
		if c, d := Class("x"), Class(""); c != api.ClassNone || d != api.ClassNone {
			t.Errorf("Class of none, with %v kept: %d, %d", other, c, d)
		}
		if d, ok := Digraph("⍴"); d != "`r" || !ok {
			t.Errorf("Digraph, with %v kept: %q, %v", other, d, ok)
		}
		if g, n := First("`r5"); g != "⍴" || n != 2 {
			t.Errorf("First, with %v kept: %q, %d", other, g, n)
		}
		if s := Glyphs("`r5"); s != "⍴5" {
			t.Errorf("Glyphs, with %v kept: %q", other, s)
		}
		if s := Ascii("⍴5"); s != "`r5" {
			t.Errorf("Ascii, with %v kept: %q", other, s)
		}
	}
}
