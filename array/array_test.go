package array_test

import (
	"math"
	"slices"
	"strings"
	"testing"

	"diaeresis/api"
	"diaeresis/array"
	"diaeresis/glyph"
	"diaeresis/lex"
	"diaeresis/number"
	"diaeresis/parse"
)

const (
	most  = math.MaxInt64
	least = math.MinInt64
)

// surrogate is the first number of runes that are none.
const surrogate = 0xd800

// pool are arrays, and what is none, at the edges that the chapter names.
func pool() []api.Array {
	right := []api.Array{
		one(0), one(1), one(-1), one(2), one(97), one(most), one(least),
		list(), list(0), list(1), list(97), list(most), list(least), list(1, 2), list(0, 1), list(97, 98), list(1, 2, 3), list(0, 1, 1), list(2, 0, most), list(-7, 97, 39),
		mark('a'), mark(0), mark(1), mark('\''), mark(0x10ffff), mark(0xd7ff), mark(0xe000), mark(0xfffd),
		text(""), text("a"), text("'"), text("ab"), text("\x00\x01"), text("a\n"), text("abc"), text("é⍴😀"), text("'''"),
		long(199, 1), long(200, 1), long(200, 0), asRunes(long(200, 'x')), asRunes(long(199, '\'')),
	}
	wrong := []api.Array{
		{}, {Runes: true}, {N: []int64{}}, {N: []int64{1, 2}}, {Runes: true, N: []int64{97, 98}}, {N: make([]int64, 200)}, {N: make([]int64, 201)},
		long(201, 1), asRunes(long(201, 'x')), long(100000, 7),
		mark(-1), mark(surrogate), mark(0xdfff), mark(0x110000), mark(most), mark(least), mark(1 << 32), mark(1<<32 + 'a'), mark(-1<<32 + 'a'),
		asRunes(list(-1)), asRunes(list(97, surrogate)), asRunes(list(0xdbff, 97)), asRunes(list(0xdc00)), asRunes(list(97, 98, 0x110000)), asRunes(list(1<<32, 97)),
	}
	return append(right, wrong...)
}

// glyphs are all glyphs, and texts that are none.
func glyphs() []string {
	list := []string{"", " ", "a", "1", "++", "+ ", "=≠", "==", "`x", "`d", "-1", "\x00", "\xff", "=\xff", strings.Repeat("=", 5000)}
	return append(list, glyph.All()...)
}

// checkArray holds what a call answers against the model, and sees to it that an
// array is right (P11.4), and nothing is beside an error (R2).
func checkArray(t *testing.T, what string, a api.Array, e api.Errno, want api.Array, wantE api.Errno) {
	t.Helper()
	if !equal(a, want) || e != wantE {
		t.Fatalf("%s: %v, %d, not %v, %d", what, a, e, want, wantE)
	}
	if e == api.OK && !array.Right(a) {
		t.Fatalf("%s: %v is no array", what, a)
	}
}

// checkMon holds what Mon answers against the model.
func checkMon(t *testing.T, g string, a api.Array) {
	t.Helper()
	c, e := array.Mon(g, a)
	want, wantE := modelMon(g, a)
	checkArray(t, "Mon of "+g+" "+array.Print(a), c, e, want, wantE)
}

// checkDy holds what Dy answers against the model.
func checkDy(t *testing.T, g string, a, b api.Array) {
	t.Helper()
	c, e := array.Dy(g, a, b)
	want, wantE := modelDy(g, a, b)
	checkArray(t, "Dy of "+array.Print(a)+g+array.Print(b), c, e, want, wantE)
}

// checkLiteral holds what Literal answers against the model.
func checkLiteral(t *testing.T, kind int, s string) {
	t.Helper()
	a, e := array.Literal(kind, s)
	want, wantE := modelLiteral(kind, s)
	checkArray(t, "Literal of "+s, a, e, want, wantE)
}

// P11.1: what is an array, and what is none.
func TestRight(t *testing.T) {
	for _, x := range []struct {
		a    api.Array
		want bool
	}{
		{one(5), true}, {one(most), true}, {one(least), true}, {list(), true}, {api.Array{List: true, N: []int64{}}, true}, {list(5), true}, {list(1, least), true}, {mark('a'), true}, {text(""), true}, {text("ab"), true},
		{api.Array{}, false}, {api.Array{N: []int64{}}, false}, {api.Array{Runes: true}, false}, {api.Array{N: []int64{1, 2}}, false}, {api.Array{Runes: true, N: []int64{97, 97}}, false},
		{long(200, 1), true}, {long(201, 1), false}, {asRunes(long(200, 1)), true}, {asRunes(long(201, 1)), false}, {api.Array{N: make([]int64, 200)}, false},
		{mark(0), true}, {mark(-1), false}, {mark(0xd7ff), true}, {mark(0xd800), false}, {mark(0xdabc), false}, {mark(0xdfff), false}, {mark(0xe000), true}, {mark(0xfffd), true}, {mark(0xffff), true}, {mark(0x10000), true}, {mark(0x10ffff), true}, {mark(0x110000), false}, {mark(1<<32 + 97), false}, {mark(most), false}, {mark(least), false},
		{one(-1), true}, {one(0xd800), true}, {one(0x110000), true},
		{asRunes(list(97, 98, -1)), false}, {asRunes(list(0xd800, 97, 98)), false}, {asRunes(list(97, 1<<32, 98)), false},
	} {
		if got := array.Right(x.a); got != x.want {
			t.Errorf("Right of %v: %v", x.a, got)
		}
	}
	for n := range int64(0x110100) {
		if got, want := array.Right(mark(n)), modelRight(mark(n)); got != want {
			t.Fatalf("Right of rune %x: %v", n, got)
		}
	}
}

// P11.1: prints, written out; what is no array has none.
func TestPrint(t *testing.T) {
	for _, x := range []struct {
		a    api.Array
		want string
	}{
		{one(0), "0"}, {one(7), "7"}, {one(-7), "¯7"}, {one(10), "10"}, {one(most), "9223372036854775807"}, {one(least), "¯9223372036854775808"},
		{list(), "⍳0"}, {list(0), ",0"}, {list(7), ",7"}, {list(-7), ",¯7"}, {list(1, -2, 0), "1 ¯2 0"}, {list(least, most), "¯9223372036854775808 9223372036854775807"}, {list(97, 39), "97 39"},
		{mark('a'), "'a'"}, {mark('\''), "''''"}, {mark('"'), "'\"'"}, {mark(0), "'\x00'"}, {mark('\n'), "'\n'"}, {mark(0x7f), "'\x7f'"}, {mark(0x80), "'\u0080'"}, {mark(0x7ff), "'\u07ff'"}, {mark(0x800), "'\u0800'"}, {mark(0xfffd), "'\ufffd'"}, {mark(0xffff), "'\uffff'"}, {mark(0x10000), "'\U00010000'"}, {mark(0x10ffff), "'\U0010ffff'"},
		{text(""), "''"}, {text("a"), ",'a'"}, {text("'"), ",''''"}, {text("ab"), "'ab'"}, {text("it's"), "'it''s'"}, {text("''"), "''''''"}, {text(" "), ",' '"}, {text("é ⍴😀"), "'é ⍴😀'"}, {text("¯1"), "'¯1'"},
		{long(200, 5), "5" + strings.Repeat(" 5", 199)}, {asRunes(long(200, '\'')), "'" + strings.Repeat("'", 400) + "'"},
		{api.Array{}, ""}, {api.Array{Runes: true}, ""}, {api.Array{N: []int64{1, 2}}, ""}, {mark(-1), ""}, {mark(surrogate), ""}, {asRunes(list(97, 0x110000)), ""}, {long(201, 5), ""}, {asRunes(long(201, 'x')), ""},
	} {
		if got := array.Print(x.a); got != x.want {
			t.Errorf("Print of %v: %q, not %q", x.a, got, x.want)
		}
	}
	for _, a := range pool() {
		if got, want := array.Print(a), modelPrint(a); got != want {
			t.Errorf("Print of %v: %q, not %q", a, got, want)
		}
	}
}

// P11.1: two are the same if all their fields are, arrays or not; nil and empty
// lists are one (R3).
func TestSame(t *testing.T) {
	list := append(pool(), one(5), list(5), mark(5), asRunes(list(5)), list(2, 1), list(1, 2, 4))
	for i, a := range list {
		again := api.Array{List: a.List, Runes: a.Runes, N: slices.Clone(a.N)}
		if !array.Same(a, again) || !array.Same(again, a) {
			t.Errorf("Same of %v and itself", a)
		}
		for j, b := range list {
			if got := array.Same(a, b); got != equal(a, b) || i == j && !got {
				t.Errorf("Same of %v, %v: %v", a, b, got)
			}
		}
	}
	for _, a := range []api.Array{{}, {List: true}, {Runes: true}, {List: true, Runes: true}} {
		b := a
		b.N = make([]int64, 0, 9)
		if !array.Same(a, b) || !array.Same(b, a) {
			t.Errorf("Same of %v with no list, and an empty one", a)
		}
	}
}

// P11.2: functions of two, written out, the chapter's examples first.
func TestDy(t *testing.T) {
	for _, x := range []struct {
		a    api.Array
		g    string
		b    api.Array
		want string
		e    api.Errno
	}{
		{list(1, 2, 3), "+", one(10), "11 12 13", 0}, {list(1, 2), "+", list(1, 2, 3), "", api.ErrLength},
		{one(1), "+", one(2), "3", 0}, {list(1), "+", one(2), ",3", 0}, {one(1), "+", list(2), ",3", 0}, {list(1), "+", list(2), ",3", 0}, {one(10), "-", list(1, 2), "9 8", 0}, {list(1, 2), "-", one(10), "¯9 ¯8", 0}, {list(9, 8), "-", list(1, 2), "8 6", 0}, {list(2, 3), "×", list(4, 5), "8 15", 0}, {list(2, 3), "|", list(5, 5), "1 2", 0}, {one(3), "|", list(4, 5, 6), "1 2 0", 0},
		{list(), "+", one(2), "⍳0", 0}, {one(2), "+", list(), "⍳0", 0}, {list(), "+", list(), "⍳0", 0}, {list(), "÷", one(0), "⍳0", 0}, {list(), "∧", one(2), "⍳0", 0}, {list(), "+", list(1), "", api.ErrLength}, {list(1), "+", list(), "", api.ErrLength}, {list(1), "+", list(1, 2), "", api.ErrLength}, {list(1, 2), "+", list(1), "", api.ErrLength},
		{text("ab"), "=", text("ax"), "1 0", 0}, {text("ab"), "≠", text("ax"), "0 1", 0}, {text("aba"), "=", mark('a'), "1 0 1", 0}, {mark('a'), "≠", text("aba"), "0 1 0", 0}, {mark('a'), "=", mark('a'), "1", 0}, {mark('a'), "=", mark('b'), "0", 0}, {mark('a'), "=", text("a"), ",1", 0},
		{text("ab"), "=", list(97, 98), "0 0", 0}, {text("ab"), "≠", list(97, 98), "1 1", 0}, {one(97), "=", mark('a'), "0", 0}, {one(97), "≠", mark('a'), "1", 0}, {mark(0), "=", one(1), "0", 0}, {mark(1), "≠", one(0), "1", 0}, {list(97), "=", text("a"), ",0", 0}, {one(97), "=", text("ab"), "0 0", 0}, {text("ab"), "≠", one(97), "1 1", 0},
		{text(""), "=", list(), "⍳0", 0}, {text(""), "≠", one(1), "⍳0", 0}, {list(), "=", mark('a'), "⍳0", 0}, {text(""), "=", text(""), "⍳0", 0}, {text(""), "=", text("a"), "", api.ErrLength}, {text("ab"), "≠", list(1), "", api.ErrLength},
		{text("ab"), "+", one(1), "", api.ErrDomain}, {one(1), "+", text("ab"), "", api.ErrDomain}, {mark('a'), "+", one(1), "", api.ErrDomain}, {one(1), "-", mark('a'), "", api.ErrDomain}, {mark('a'), "<", mark('b'), "", api.ErrDomain}, {text("ab"), "≤", text("ab"), "", api.ErrDomain}, {text("ab"), "⌈", list(1, 2), "", api.ErrDomain}, {mark(1), "∧", one(1), "", api.ErrDomain},
		{text(""), "+", one(1), "⍳0", 0}, {one(1), "+", text(""), "⍳0", 0}, {text(""), "<", text(""), "⍳0", 0}, {text(""), "+", list(), "⍳0", 0}, {text(""), "+", mark('a'), "", api.ErrDomain}, {list(), "+", mark('a'), "", api.ErrDomain}, {mark('a'), "∨", list(), "", api.ErrDomain},
		{text("ab"), "<", list(1), "", api.ErrLength}, {text("ab"), "+", text(""), "", api.ErrLength}, {list(most, 1), "+", list(1), "", api.ErrLength},
		{one(1), "⍴", one(1), "", api.ErrDomain}, {one(1), "~", one(1), "", api.ErrDomain}, {list(1, 2), "⍴", list(1), "", api.ErrDomain}, {text("ab"), ",", list(1), "", api.ErrDomain}, {one(1), "", one(1), "", api.ErrDomain}, {one(1), "`x", one(1), "", api.ErrDomain}, {list(), "⌽", list(), "", api.ErrDomain},
		{list(4, 3), "÷", one(2), "", api.ErrDivide}, {list(4, 0, 6), "÷", list(2, 0, 3), "2 1 2", 0}, {list(4, 3, 1), "÷", list(0, 2, 1), "", api.ErrDivide}, {list(1, most, least), "+", one(1), "", api.ErrOver}, {list(least, 1), "÷", list(-1, 0), "", api.ErrOver}, {list(1, least), "÷", list(0, -1), "", api.ErrDivide}, {list(0, 2, 1), "∧", one(1), "", api.ErrDomain}, {one(most), "×", list(0, 1, -1, 2), "", api.ErrOver}, {one(most), "×", list(0, 1, -1), "0 9223372036854775807 ¯9223372036854775807", 0},
		{api.Array{}, "+", one(1), "", api.ErrArray}, {one(1), "+", api.Array{}, "", api.ErrArray}, {api.Array{}, "+", api.Array{}, "", api.ErrArray}, {api.Array{}, "⍴", one(1), "", api.ErrArray}, {list(1, 2), "", mark(-1), "", api.ErrArray}, {long(201, 1), "+", list(1), "", api.ErrArray}, {mark(surrogate), "=", mark(surrogate), "", api.ErrArray}, {list(), "+", api.Array{N: []int64{1, 2}}, "", api.ErrArray},
	} {
		c, e := array.Dy(x.g, x.a, x.b)
		if got := array.Print(c); got != x.want || e != x.e || c.Runes {
			t.Errorf("%s%s%s: %q, %d, not %q, %d", array.Print(x.a), x.g, array.Print(x.b), got, e, x.want, x.e)
		}
	}
}

// P11.2: functions of one, written out.
func TestMon(t *testing.T) {
	for _, x := range []struct {
		g    string
		a    api.Array
		want string
		e    api.Errno
	}{
		{"-", list(1, -2), "¯1 2", 0}, {"-", one(5), "¯5", 0}, {"-", list(5), ",¯5", 0}, {"-", list(), "⍳0", 0}, {"+", list(3, 4), "3 4", 0}, {"×", list(-5, 0, 5), "¯1 0 1", 0}, {"|", list(-5, 5), "5 5", 0}, {"~", list(0, 1, 1), "1 0 0", 0}, {"÷", list(1, -1), "1 ¯1", 0}, {"⌈", one(5), "5", 0}, {"⌊", one(5), "5", 0},
		{"-", text(""), "⍳0", 0}, {"~", text(""), "⍳0", 0}, {"÷", list(), "⍳0", 0},
		{"+", mark('a'), "", api.ErrDomain}, {"+", text("a"), "", api.ErrDomain}, {"-", text("ab"), "", api.ErrDomain}, {"~", mark(1), "", api.ErrDomain}, {"~", asRunes(list(0, 1)), "", api.ErrDomain},
		{"~", one(2), "", api.ErrDomain}, {"~", list(0, 1, 2), "", api.ErrDomain}, {"÷", list(1, 2), "", api.ErrDivide}, {"÷", list(1, 0), "", api.ErrDivide}, {"-", list(1, least), "", api.ErrOver}, {"|", list(least, 1), "", api.ErrOver},
		{"=", one(1), "", api.ErrDomain}, {"∧", one(1), "", api.ErrDomain}, {"⍴", one(1), "", api.ErrDomain}, {"⍴", list(), "", api.ErrDomain}, {"≠", text(""), "", api.ErrDomain}, {"", one(1), "", api.ErrDomain}, {"`h", one(1), "", api.ErrDomain},
		{"-", api.Array{}, "", api.ErrArray}, {"-", api.Array{N: []int64{1, 2}}, "", api.ErrArray}, {"", api.Array{}, "", api.ErrArray}, {"+", mark(-1), "", api.ErrArray}, {"=", asRunes(list(97, 0x110000)), "", api.ErrArray}, {"-", long(201, 1), "", api.ErrArray},
	} {
		c, e := array.Mon(x.g, x.a)
		if got := array.Print(c); got != x.want || e != x.e || c.Runes {
			t.Errorf("%s%s: %q, %d, not %q, %d", x.g, array.Print(x.a), got, e, x.want, x.e)
		}
	}
}

// P11.2: all functions, and what is none, of all arrays, and what is none (R1).
func TestFunctions(t *testing.T) {
	list := pool()
	for _, g := range glyphs() {
		for _, a := range list {
			checkMon(t, g, a)
			for _, b := range list {
				checkDy(t, g, a, b)
			}
		}
	}
}

// dice are numbers that look like chance, and are the same in every run.
type dice struct{ state uint64 }

// roll is a number from 0 on, less than n.
func (d *dice) roll(n int) int {
	d.state = d.state*6364136223846793005 + 1442695040888963407
	return int(d.state>>33) % n
}

// array is any array, most often of few items, and mostly of small numbers.
func (d *dice) array() api.Array {
	a := api.Array{List: d.roll(3) > 0, Runes: d.roll(4) == 0, N: make([]int64, 1)}
	if a.List {
		a.N = make([]int64, d.roll(4))
	}
	for i := range a.N {
		a.N[i] = int64(d.roll(4))
		if !a.Runes && d.roll(3) == 0 {
			a.N[i] -= int64(d.roll(5))
		}
		if !a.Runes && d.roll(20) == 0 {
			a.N[i] = []int64{most, least}[d.roll(2)]
		}
	}
	return a
}

// P11.2, P11.4: other arrays.
func TestOthers(t *testing.T) {
	d := &dice{3}
	list := glyph.All()
	for range 100000 {
		a, b, g := d.array(), d.array(), list[d.roll(len(list))]
		checkMon(t, g, a)
		checkDy(t, g, a, b)
		if got, want := array.Print(a), modelPrint(a); got != want || !array.Right(a) {
			t.Fatalf("Print of %v: %q, not %q", a, got, want)
		}
	}
}

// P11.2: what is told is that of the first items of which nothing comes,
// wherever they are.
func TestFirst(t *testing.T) {
	for i := range 200 {
		for j := range 200 {
			if i == j || (i+j)%7 > 0 {
				continue
			}
			a, b := long(200, 1), long(200, -1)
			a.N[i], b.N[j] = least, 0
			want := api.ErrDivide
			if i < j {
				want = api.ErrOver
			}
			if c, e := array.Dy("÷", a, b); !equal(c, api.Array{}) || e != want {
				t.Fatalf("the least number at %d, divided by 0 at %d: %v, %d, not %d", i, j, c, e, want)
			}
		}
	}
}

// P11.3: numbers' literals, written out.
func TestNumbers(t *testing.T) {
	for s, want := range map[string]api.Array{
		"0": one(0), "1": one(1), "9": one(9), "10": one(10), "¯1": one(-1), "¯10": one(-10), "¯5": one(-5), "100": one(100), "999999999999999999": one(999999999999999999), "¯999999999999999999": one(-999999999999999999), "100000000000000000": one(100000000000000000),
		"1 2": list(1, 2), "1 ¯2 0": list(1, -2, 0), "0 0": list(0, 0), "¯1 ¯1": list(-1, -1), "10 20 30": list(10, 20, 30),
	} {
		if a, e := array.Literal(api.NodeNumber, s); !equal(a, want) || e != api.OK {
			t.Errorf("Literal of %q: %v, %d", s, a, e)
		}
		checkLiteral(t, api.NodeNumber, s)
	}
	for _, s := range []string{
		"", " ", "  ", "¯", "¯ ", " ¯", "¯¯1", "1¯", "1¯2", "-1", "+1", "01", "00", "007", "¯0", "¯01", "¯00", "0 ¯0", "1 01", "01 1", "1000000000000000000", "¯1000000000000000000", "000000000000000000", "9223372036854775807", "1 1000000000000000000", "99999999999999999999999999999999",
		"1  2", " 1", "1 ", "1 2 ", " 1 2", "1\t2", "1\n2", "1\n", "1\r", "1\u00a02", "1,2", "1_0", "1a", "a1", "a", "1e5", "1.5", "0x1", "1 x", "x 1", "'1'", "1 '", "¯ 1", "`h1", "1\x00", "\x001", "1\xff", "\xff", "\xc2", "\xaf1", "\xc2 \xaf1", "1 \xc2\xaf", "٣", "１", "1 ⍝", "⍳0", ",1", "(1)", "1⋄2",
	} {
		if a, e := array.Literal(api.NodeNumber, s); !equal(a, api.Array{}) || e != api.ErrArray {
			t.Errorf("Literal of %q: %v, %d", s, a, e)
		}
		checkLiteral(t, api.NodeNumber, s)
	}
}

// P11.3: texts' literals, written out.
func TestTexts(t *testing.T) {
	for s, want := range map[string]api.Array{
		"''": text(""), "'a'": mark('a'), "''''": mark('\''), "' '": mark(' '), "'ab'": text("ab"), "'a''b'": text("a'b"), "''''''": text("''"), "'''a'": text("'a"), "'a'''": text("a'"), "'it''s'": text("it's"), "'\n'": mark('\n'), "'a\nb'": text("a\nb"), "'\x00'": mark(0), "'⍝ ⋄'": text("⍝ ⋄"), "'`b'": text("`b"), "'1 2'": text("1 2"), "'\"'": mark('"'), "'¯1'": text("¯1"),
		"'é'": mark('é'), "'é⍴'": text("é⍴"), "'😀'": mark('😀'), "'\U0010ffff'": mark(0x10ffff), "'\ufffd'": mark(0xfffd), "'\ufeff'": mark(0xfeff), "'e\u0301'": text("e\u0301"),
		"'\xff'": mark(0xfffd), "'\x80'": mark(0xfffd), "'\xe2\x8d'": text("\ufffd\ufffd"), "'\xe2\x8d''\xb4'": text("\ufffd\ufffd'\ufffd"), "'\xed\xa0\x80'": text("\ufffd\ufffd\ufffd"), "'\xc0\x80'": text("\ufffd\ufffd"), "'\xf4\x90\x80\x80'": text("\ufffd\ufffd\ufffd\ufffd"), "'a\xffb'": text("a\ufffdb"), "'\xff\xc3\xa9'": text("\ufffdé"), "'\xc3\xc3\xa9'": text("\ufffdé"),
	} {
		a, e := array.Literal(api.NodeText, s)
		if !equal(a, want) || e != api.OK {
			t.Errorf("Literal of %q: %v, %d", s, a, e)
		}
		checkLiteral(t, api.NodeText, s)
	}
	for _, s := range []string{"", "'", "'''", "'''''", "a", "'a", "a'", "'a''", "''a'", "'a'b'", "'a'''b'c'", "'a' ", " 'a'", "'a''b", "'a' 'b'", "\"a\"", "`a`", "‘a’", "'a'\n", "\n''", "''⍝", "'\xff", "\xff'", "1", "''a''", "'''a''", "'\xe2''"} {
		if a, e := array.Literal(api.NodeText, s); !equal(a, api.Array{}) || e != api.ErrArray {
			t.Errorf("Literal of %q: %v, %d", s, a, e)
		}
		checkLiteral(t, api.NodeText, s)
	}
}

// P11.3: each byte, alone and beside others, in literals of both kinds.
func TestBytes(t *testing.T) {
	for c := range 256 {
		x := string([]byte{byte(c)})
		for _, s := range []string{x, x + "1", "1" + x, "1" + x + "2", "1 " + x, "¯" + x, "¯1" + x} {
			checkLiteral(t, api.NodeNumber, s)
			checkLiteral(t, api.NodeText, s)
			checkLiteral(t, api.NodeText, "'"+s+"'")
			checkLiteral(t, api.NodeText, x+s+x)
		}
	}
}

// P11.3: how many items there may be, and that a text that is none is told of
// first.
func TestMany(t *testing.T) {
	for n := 1; n < 420; n++ {
		for _, s := range []string{strings.Repeat("7 ", n-1) + "¯7", strings.Repeat("7 ", n), strings.Repeat("7 ", n) + "x", strings.Repeat("7 ", n) + "07"} {
			checkLiteral(t, api.NodeNumber, s)
		}
		for _, item := range []string{"x", "''", "é", "\xff", "\n", "x''"} {
			s := "'" + strings.Repeat(item, n)
			checkLiteral(t, api.NodeText, s+"'")
			checkLiteral(t, api.NodeText, s+"''")
			checkLiteral(t, api.NodeText, s+"'x'")
			checkLiteral(t, api.NodeText, s)
		}
	}
	for _, x := range []struct {
		kind int
		s    string
		e    api.Errno
	}{
		{api.NodeNumber, strings.Repeat("1 ", 199) + "1", api.OK}, {api.NodeNumber, strings.Repeat("1 ", 200) + "1", api.ErrLimit}, {api.NodeNumber, strings.Repeat("1 ", 200), api.ErrArray}, {api.NodeNumber, strings.Repeat("1 ", 300) + "¯0", api.ErrArray},
		{api.NodeText, "'" + strings.Repeat("é", 200) + "'", api.OK}, {api.NodeText, "'" + strings.Repeat("é", 201) + "'", api.ErrLimit}, {api.NodeText, "'" + strings.Repeat("'", 400) + "'", api.OK}, {api.NodeText, "'" + strings.Repeat("'", 402) + "'", api.ErrLimit}, {api.NodeText, "'" + strings.Repeat("'", 401) + "'", api.ErrArray}, {api.NodeText, "'" + strings.Repeat("a", 300) + "'a'", api.ErrArray},
	} {
		if a, e := array.Literal(x.kind, x.s); e != x.e || e != api.OK && !equal(a, api.Array{}) {
			t.Errorf("Literal of %.9q, %d bytes: %d, not %d", x.s, len(x.s), e, x.e)
		}
	}
}

// P11.3: other kinds have no literals.
func TestKinds(t *testing.T) {
	for kind := -3; kind < 300; kind++ {
		for _, s := range []string{"", "1", "1 2", "'a'", "''", "a", "+"} {
			checkLiteral(t, kind, s)
		}
	}
	for _, kind := range []int{math.MinInt, math.MaxInt, 1 << 32, 1<<32 + api.NodeNumber, -api.NodeText} {
		checkLiteral(t, kind, "1")
		checkLiteral(t, kind, "'a'")
	}
}

// P11.3: other texts, of pieces that literals are made of, and of some that they
// aren't.
func TestOtherLiterals(t *testing.T) {
	d := &dice{5}
	pieces := []string{"1", "0", " ", "¯", "25", "'", "''", "a", "\n", "é", "\xff", "\xc2", "\xaf"}
	for range 50000 {
		s := ""
		for range d.roll(9) {
			s += pieces[d.roll(len(pieces)-d.roll(8))]
		}
		checkLiteral(t, api.NodeNumber, s)
		checkLiteral(t, api.NodeText, s)
		checkLiteral(t, api.NodeText, "'"+s+"'")
	}
}

// P11.3: the texts of trees' literals are read (chapter 8).
func TestTrees(t *testing.T) {
	for line, want := range map[string]string{"1 `h02   007": "1 ¯2 7", "¯0": "0", "00 1": "0 1", "'it''s'": "'it''s'", "`h5\t5": "¯5 5", "'`r'": "'`r'", "'a'": "'a'"} {
		tree, e := parse.Expr(lex.Plain(lex.Line(line)), nil, false)
		if e != api.OK || len(tree) != 1 {
			t.Fatalf("Expr of %q: %v, %d", line, tree, e)
		}
		a, e := array.Literal(tree[0].Kind, tree[0].Text)
		if got := array.Print(a); got != want || e != api.OK {
			t.Errorf("%q: %q, %d", line, got, e)
		}
	}
}

// P11.4: prints are literals, of numbers that have no more digits than tokens
// may, and of runes, but those of lists of one item, and of no numbers.
func TestPrintsAreLiterals(t *testing.T) {
	d := &dice{9}
	for _, a := range append(pool(), list(1, 999999999999999999), list(-999999999999999999, 0)) {
		checkPrint(t, a)
	}
	for range 50000 {
		a := d.array()
		for i := range a.N {
			if d.roll(3) == 0 {
				a.N[i] = int64(d.roll(0x110000))
			}
		}
		checkPrint(t, a)
	}
}

// checkPrint reads an array's print as a literal.
func checkPrint(t *testing.T, a api.Array) {
	t.Helper()
	if !modelRight(a) || a.List && len(a.N) == 1 || !a.Runes && len(a.N) == 0 {
		return
	}
	kind := api.NodeText
	if !a.Runes {
		kind = api.NodeNumber
	}
	s := array.Print(a)
	b, e := array.Literal(kind, s)
	if slices.ContainsFunc(a.N, func(n int64) bool { return n > 999999999999999999 || n < -999999999999999999 }) {
		if e != api.ErrArray {
			t.Fatalf("Literal of %q: %v, %d", s, b, e)
		}
		return
	}
	if !array.Same(a, b) || e != api.OK || array.Print(b) != s {
		t.Fatalf("Literal of the print of %v: %v, %d", a, b, e)
	}
}

// worn is a copy of a list in the middle of other numbers.
func worn(n []int64) (api.Array, []int64) {
	room := append(append([]int64{77, 77}, n...), 77, 77, 77)
	return api.Array{List: true, N: room[2 : 2+len(n)]}, room
}

// R3: what is handed in is neither written into, nor its spare room.
func TestHandedIn(t *testing.T) {
	for _, g := range glyphs() {
		for _, n := range [][]int64{nil, {1}, {0, 1}, {4, least, 0}} {
			for _, runes := range []bool{false, true} {
				a, room := worn(n)
				a.Runes = runes
				before := slices.Clone(room)
				array.Mon(g, a)
				array.Dy(g, a, a)
				array.Dy(g, one(1), a)
				array.Dy(g, a, mark('a'))
				array.Print(a)
				array.Right(a)
				array.Same(a, a)
				if !slices.Equal(room, before) {
					t.Fatalf("%s of %v writes: %v", g, before, room)
				}
			}
		}
	}
}

// R3: what is answered is new memory, spare room too.
func TestNewMemory(t *testing.T) {
	for _, g := range []string{"+", "⌈", "⌊", "×", "|"} {
		a, room := worn([]int64{1, 1, 0})
		before := slices.Clone(room)
		for _, b := range []api.Array{one(0), one(1), list(0, 0, 0), list(1, 1, 1), a} {
			c, _ := array.Dy(g, a, b)
			d, _ := array.Mon(g, a)
			again, _ := array.Dy(g, a, b)
			want := slices.Clone(again.N)
			for _, l := range [][]int64{c.N, d.N} {
				for i := range l[:cap(l)] {
					l[:cap(l)][i] = 99
				}
			}
			if !slices.Equal(room, before) || !slices.Equal(again.N, want) {
				t.Fatalf("%s of %v shares memory", g, a)
			}
		}
	}
	for kind, s := range map[int]string{api.NodeNumber: "1 2 3", api.NodeText: "'abc'"} {
		a, _ := array.Literal(kind, s)
		b, _ := array.Literal(kind, s)
		for i := range a.N[:cap(a.N)] {
			a.N[:cap(a.N)][i] = 99
		}
		checkLiteral(t, kind, s)
		if want, _ := modelLiteral(kind, s); !equal(b, want) {
			t.Errorf("Literal of %q shares memory", s)
		}
	}
}

// R4: what a call answers hangs on its arguments alone.
func TestAgain(t *testing.T) {
	for range 3 {
		for _, g := range glyphs() {
			array.Dy(g, api.Array{}, one(1))
			array.Dy(g, list(1, 2), list(1))
			array.Mon(g, text("ab"))
			array.Literal(api.NodeText, "'"+g)
			checkDy(t, g, list(1, 0), one(1))
			checkMon(t, g, list(1, 0))
		}
		checkLiteral(t, api.NodeText, "'ab'")
		checkLiteral(t, api.NodeNumber, "1 2")
	}
}

// R5: texts and lists that are long.
func TestLong(t *testing.T) {
	for _, s := range []string{strings.Repeat("1 ", 1<<17) + "1", strings.Repeat("9", 1<<17), strings.Repeat(" ", 1<<17), strings.Repeat("¯", 1<<17)} {
		checkLiteral(t, api.NodeNumber, s)
	}
	for _, s := range []string{strings.Repeat("'", 1<<17), strings.Repeat("'", 1<<17+1), "'" + strings.Repeat("x", 1<<17) + "'", "'" + strings.Repeat("\xff", 1<<17)} {
		checkLiteral(t, api.NodeText, s)
	}
	for _, a := range []api.Array{long(1<<17, 1), asRunes(long(1<<17, 1)), {N: make([]int64, 1<<17)}} {
		if array.Right(a) || array.Print(a) != "" || !array.Same(a, a) {
			t.Errorf("a list of %d items is an array", len(a.N))
		}
		checkMon(t, "-", a)
		checkDy(t, "=", a, a)
	}
}

// P11.2: the functions are those of number, item by item.
func TestItems(t *testing.T) {
	n := []int64{0, 1, -1, 2, -2, 7, most, least}
	for _, g := range glyph.All() {
		for _, x := range n {
			for _, y := range n {
				want, wantE := number.Dy(g, x, y)
				c, e := array.Dy(g, one(x), one(y))
				if e != wantE || e == api.OK && !equal(c, one(want)) {
					t.Errorf("%d%s%d: %v, %d", x, g, y, c, e)
				}
			}
			want, wantE := number.Mon(g, x)
			c, e := array.Mon(g, one(x))
			if e != wantE || e == api.OK && !equal(c, one(want)) {
				t.Errorf("%s%d: %v, %d", g, x, c, e)
			}
		}
	}
}
