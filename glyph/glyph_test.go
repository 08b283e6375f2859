package glyph_test

import (
	"maps"
	"slices"
	"strings"
	"sync"
	"testing"

	"diaeresis/api"
	"diaeresis/glyph"
)

// groups are the chapter's table: of each class the glyphs and, below them,
// their letters (a blank where there is none).
var groups = []struct {
	class           int
	glyphs, letters string
}{
	{api.ClassFn, "+-×÷⌈⌊|=≠<>≤≥∧∨~⍴⍳,⌽↑↓≢", "  xdun  q  lgao ri tkjm"},
	{api.ClassOp, "/\\¨⍨", "  ec"},
	{api.ClassSign, "←⋄:{}()", "sz     "},
	{api.ClassArg, "⍺⍵", "pw"},
	{api.ClassMinus, "¯", "h"},
	{api.ClassRemark, "⍝", "b"},
}

// row is one of the table.
type row struct {
	glyph, digraph string
	class          int
}

func rows() []row {
	var list []row
	for _, g := range groups {
		letters := g.letters
		for _, r := range g.glyphs {
			x := row{glyph: string(r), class: g.class}
			if letters[0] != ' ' {
				x.digraph = "`" + letters[:1]
			}
			list = append(list, x)
			letters = letters[1:]
		}
	}
	return list
}

// drawn and typed are texts with glyphs, with digraphs, told by the library,
// which replaces from the left, and reads nothing again that it has written.
func drawn(s string) string {
	var pairs []string
	for _, x := range rows() {
		if x.digraph != "" {
			pairs = append(pairs, x.digraph, x.glyph)
		}
	}
	return strings.NewReplacer(pairs...).Replace(s)
}

func typed(s string) string {
	var pairs []string
	for _, x := range rows() {
		if x.digraph != "" {
			pairs = append(pairs, x.glyph, x.digraph)
		}
	}
	return strings.NewReplacer(pairs...).Replace(s)
}

// first is what First is to tell of a text.
func first(s string) (string, int) {
	for _, x := range rows() {
		if strings.HasPrefix(s, x.glyph) {
			return x.glyph, len(x.glyph)
		}
		if x.digraph != "" && strings.HasPrefix(s, x.digraph) {
			return x.glyph, 2
		}
	}
	return "", 0
}

// check holds all that is told of a text against the models, and against what
// follows (P3.3).
func check(t *testing.T, s string) {
	t.Helper()
	wantGlyph, wantSize := first(s)
	if g, n := glyph.First(s); g != wantGlyph || n != wantSize {
		t.Fatalf("First(%q): %q, %d, not %q, %d", s, g, n, wantGlyph, wantSize)
	}
	glyphs, ascii := glyph.Glyphs(s), glyph.Ascii(s)
	if want := drawn(s); glyphs != want {
		t.Fatalf("Glyphs(%q): %q, not %q", s, glyphs, want)
	}
	if want := typed(s); ascii != want {
		t.Fatalf("Ascii(%q): %q, not %q", s, ascii, want)
	}
	for _, x := range rows() {
		if x.digraph != "" && strings.Contains(glyphs, x.digraph) {
			t.Fatalf("Glyphs(%q): %q, which has a digraph", s, glyphs)
		}
		if x.digraph != "" && strings.Contains(ascii, x.glyph) {
			t.Fatalf("Ascii(%q): %q, which has a glyph", s, ascii)
		}
	}
	if got := glyph.Glyphs(glyphs); got != glyphs {
		t.Fatalf("Glyphs of Glyphs of %q: %q, not %q", s, got, glyphs)
	}
	if got := glyph.Glyphs(ascii); got != glyphs {
		t.Fatalf("Glyphs of Ascii of %q: %q, not %q", s, got, glyphs)
	}
}

// P3.1, P3.2: the document's examples.
func TestExamples(t *testing.T) {
	if got := glyph.Glyphs("`r"); got != "⍴" {
		t.Errorf("Glyphs: %q", got)
	}
	if got := glyph.Glyphs("`r5"); got != "⍴5" {
		t.Errorf("Glyphs: %q", got)
	}
	if got := glyph.Ascii("⍴5"); got != "`r5" {
		t.Errorf("Ascii: %q", got)
	}
	if g, n := glyph.First("`r5"); g != "⍴" || n != 2 {
		t.Errorf("First: %q, %d", g, n)
	}
}

// P3.1: the table, whole and in order.
func TestAll(t *testing.T) {
	var want []string
	digraphs := 0
	for _, x := range rows() {
		want = append(want, x.glyph)
		if x.digraph != "" {
			digraphs++
		}
	}
	if len(want) != 38 || digraphs != 23 {
		t.Fatalf("the test's table has %d glyphs, %d digraphs", len(want), digraphs)
	}
	if got := glyph.All(); !slices.Equal(got, want) {
		t.Errorf("All: %q, not %q", got, want)
	}
}

// P3.1: each glyph, and its digraph.
func TestEachGlyph(t *testing.T) {
	for _, x := range rows() {
		if c := glyph.Class(x.glyph); c != x.class {
			t.Errorf("Class(%q): %d, not %d", x.glyph, c, x.class)
		}
		if d, ok := glyph.Digraph(x.glyph); d != x.digraph || ok != (x.digraph != "") {
			t.Errorf("Digraph(%q): %q, %v, not %q", x.glyph, d, ok, x.digraph)
		}
		for _, behind := range []string{"", "5", "`", "`r", "⍴", "\xff", "\n", x.glyph} {
			check(t, x.glyph+behind)
			check(t, behind+x.glyph)
			if x.digraph == "" {
				continue
			}
			if g, n := glyph.First(x.digraph + behind); g != x.glyph || n != 2 {
				t.Errorf("First(%q): %q, %d", x.digraph+behind, g, n)
			}
			check(t, x.digraph+behind)
			check(t, behind+x.digraph)
		}
	}
}

// P3.1: what is no glyph: more than one, less than one, digraphs, others that
// look alike, bytes that are no runes.
func TestNoGlyphs(t *testing.T) {
	list := []string{"", " ", "a", "`", "1", "\n", "\x00", "\xff", "←→", "→", "−", "–", "∣", "∼", "*", "∘", "◊", "⎕", "⍬", "＋", "\xc0\xab", "\xe0\x80\xab", "+\x00", "\ufeff+"}
	for _, x := range rows() {
		list = append(list, x.glyph+x.glyph, x.glyph+" ", " "+x.glyph, x.glyph+"\xff", x.glyph[1:], x.glyph[:len(x.glyph)-1])
		if x.digraph != "" {
			list = append(list, x.digraph, x.digraph[1:], strings.ToUpper(x.digraph), "'"+x.digraph[1:])
		}
	}
	for _, s := range list {
		if c := glyph.Class(s); c != api.ClassNone {
			t.Errorf("Class(%q): %d", s, c)
		}
		if d, ok := glyph.Digraph(s); d != "" || ok {
			t.Errorf("Digraph(%q): %q, %v", s, d, ok)
		}
		check(t, s)
	}
}

// P3.1, P3.2: no rune is a glyph but the 38.
func TestAllRunes(t *testing.T) {
	known := map[string]bool{}
	for _, x := range rows() {
		known[x.glyph] = true
	}
	for r := range rune(0x110000) {
		s := string(r)
		if known[s] || r >= 0xd800 && r < 0xe000 {
			continue
		}
		if c := glyph.Class(s); c != api.ClassNone {
			t.Fatalf("Class(%q): %d", s, c)
		}
		if r >= 0x3000 {
			continue
		}
		if d, ok := glyph.Digraph(s); d != "" || ok {
			t.Fatalf("Digraph(%q): %q, %v", s, d, ok)
		}
		if g, n := glyph.First(s); g != "" || n != 0 {
			t.Fatalf("First(%q): %q, %d", s, g, n)
		}
		if x, y := glyph.Glyphs(s), glyph.Ascii(s); x != s || y != s {
			t.Fatalf("Glyphs and Ascii of %q: %q, %q", s, x, y)
		}
	}
}

// P3.1, P3.2: a backtick and any byte: only the table's letters make a digraph.
func TestBackticks(t *testing.T) {
	for c := range 256 {
		s := "`" + string([]byte{byte(c)})
		check(t, s)
		check(t, "`"+s)
		check(t, s+s)
		check(t, s+"`")
	}
	for s, want := range map[string]string{
		"``":      "``",
		"``r":     "`⍴",
		"```r":    "``⍴",
		"`⍴":      "`⍴",
		"`rr":     "⍴r",
		"`r`":     "⍴`",
		"`R`y`f`": "`R`y`f`",
		"`v`1`_`": "`v`1`_`",
		"'`r'":    "'⍴'",
		"⍝ `b":    "⍝ ⍝",
		"` r":     "` r",
		"`\nr":    "`\nr",
	} {
		if got := glyph.Glyphs(s); got != want {
			t.Errorf("Glyphs(%q): %q, not %q", s, got, want)
		}
	}
}

// P3.2: what is typed, and what stays as it is.
func TestAscii(t *testing.T) {
	for s, want := range map[string]string{
		"":               "",
		"a←¯7 ⍝ ⍴":       "a`s`h7 `b `r",
		"`⍴":             "``r",
		"``⍴":            "```r",
		"`r⍴":            "`r`r",
		"+-|=<>~,/\\:{}": "+-|=<>~,/\\:{}",
		"é😀→":            "é😀→",
		"\xe2⍴\x8d":      "\xe2`r\x8d",
		"\xe2\x8d\n\xb4": "\xe2\x8d\n\xb4",
	} {
		if got := glyph.Ascii(s); got != want {
			t.Errorf("Ascii(%q): %q, not %q", s, got, want)
		}
	}
}

// P3.1 to P3.3: all short texts of some parts, among them halves of glyphs.
func TestShortTexts(t *testing.T) {
	parts := []string{"`", "r", "x", "R", "⍴", "×", "+", "\xe2", "\x8d", "\xb4", "\n"}
	texts := []string{""}
	for range 4 {
		var longer []string
		for _, s := range texts {
			check(t, s)
			for _, p := range parts {
				longer = append(longer, s+p)
			}
		}
		texts = longer
	}
}

// P3.1 to P3.3: texts of any parts.
func TestAnyTexts(t *testing.T) {
	state := uint32(3)
	below := func(n int) int {
		state = state*1664525 + 1013904223
		return int(state>>8) % n
	}
	parts := []string{"`", "`", "a", "z", "5", " ", "\n", "'", "\xff", "\xc3", "é", "😀"}
	for _, x := range rows() {
		parts = append(parts, x.glyph, x.glyph[:len(x.glyph)-1], x.glyph[1:], x.digraph)
	}
	for range 2000 {
		var s strings.Builder
		for range below(30) {
			s.WriteString(parts[below(len(parts))])
		}
		check(t, s.String())
	}
}

// P3.2: long texts.
func TestLong(t *testing.T) {
	const many = 50000
	s := strings.Repeat("`ra", many)
	if got := glyph.Glyphs(s); got != strings.Repeat("⍴a", many) {
		t.Errorf("Glyphs: %d bytes", len(got))
	}
	if got := glyph.Ascii(strings.Repeat("⍴a", many)); got != s {
		t.Errorf("Ascii: %d bytes", len(got))
	}
	s = strings.Repeat("`", many)
	if x, y := glyph.Glyphs(s), glyph.Ascii(s); x != s || y != s {
		t.Errorf("backticks: %d, %d bytes", len(x), len(y))
	}
	if g, n := glyph.First(s + "r"); g != "" || n != 0 {
		t.Errorf("First: %q, %d", g, n)
	}
}

// R3: what is answered is new memory, its spare room too.
func TestNewMemory(t *testing.T) {
	a, b := glyph.All(), glyph.All()
	_ = append(a, "x")
	for i := range a {
		a[i] = "x"
	}
	if b[0] != "+" || b[37] != "⍝" || glyph.All()[0] != "+" || glyph.Class("+") != api.ClassFn || glyph.Class("x") != api.ClassNone {
		t.Errorf("All: %q, %q", b, glyph.All())
	}
}

// P3.1: all classes at once are those that are told one by one.
func TestClasses(t *testing.T) {
	want := map[string]int{}
	for _, x := range rows() {
		want[x.glyph] = x.class
	}
	a, b := glyph.Classes(), glyph.Classes()
	if !maps.Equal(a, want) || !maps.Equal(b, want) {
		t.Fatalf("Classes: %v, %v, not %v", a, b, want)
	}
	clear(a)
	a["+"], a["x"] = api.ClassOp, api.ClassFn
	if c := glyph.Classes(); !maps.Equal(b, want) || !maps.Equal(c, want) {
		t.Errorf("Classes behind a change of what was answered: %v, %v", b, c)
	}
}

// R4: what is made once is made for all that ask at one time.
func TestAtOnce(t *testing.T) {
	var all sync.WaitGroup
	for range 50 {
		all.Go(func() {
			classes := glyph.Classes()
			for _, x := range rows() {
				if c, d := glyph.Class(x.glyph), classes[x.glyph]; c != x.class || d != x.class {
					t.Errorf("Class(%q): %d, of Classes %d, not %d", x.glyph, c, d, x.class)
				}
			}
		})
	}
	all.Wait()
}
