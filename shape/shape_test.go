package shape_test

import (
	"math"
	"slices"
	"strings"
	"testing"

	"diaeresis/api"
	"diaeresis/array"
	"diaeresis/glyph"
	"diaeresis/shape"
)

const (
	most  = math.MaxInt64
	least = math.MinInt64
)

// surrogate is the first number of runes that are none.
const surrogate = 0xd800

// pool are arrays, and what is none, at the edges that the chapter names.
func pool() []api.Array {
	right := []api.Array{
		one(0), one(1), one(-1), one(2), one(-2), one(97), one(199), one(200), one(201), one(-199), one(-200), one(-201), one(most), one(least), one(1 << 32), one(1<<32 + 1), one(-1<<32 - 1),
		list(), {List: true, N: []int64{}}, list(0), list(1), list(-1), list(2), list(97), list(200), list(201), list(-200), list(-201), list(most), list(least), list(1, 2), list(0, 1), list(97, 98), list(1, 2, 3), list(0, 1, 1), list(2, 0, most), list(-7, 97, 39, 97), list(32, 0, 32),
		mark('a'), mark(0), mark(1), mark(' '), mark(0x10ffff),
		text(""), text("a"), text(" "), text("ab"), text("\x00\x01"), text("a a"), text("abcab"), text("é⍴😀"),
		long(99), long(100), long(101), long(199), long(200), asRunes(long(100)), asRunes(long(101)), asRunes(long(199)), asRunes(long(200)),
	}
	wrong := []api.Array{
		{}, {Runes: true}, {N: []int64{}}, {N: []int64{1, 2}}, {Runes: true, N: []int64{97, 98}}, {N: make([]int64, 201)},
		long(201), asRunes(long(201)), long(100000),
		mark(-1), mark(surrogate), mark(0xdfff), mark(0x110000), mark(most), mark(1 << 32), asRunes(list(97, surrogate)), asRunes(list(-1)),
	}
	return append(right, wrong...)
}

// glyphs are all glyphs, and texts that are none.
func glyphs() []string {
	texts := []string{"", " ", "a", "1", "⍴⍴", "⍴ ", ",,", ";", "`r", "`i", "rho", "\x00", "\xff", ",\xff", "\xe2\x8d", strings.Repeat("⌽", 5000)}
	return append(texts, glyph.All()...)
}

// ofOne and ofTwo are the glyphs that the chapter names.
func ofOne() []string { return []string{"⍴", "⍳", ",", "⌽", "↑", "≢"} }

func ofTwo() []string { return append(ofOne(), "↓") }

// checkArray holds what a call answers against the model, and sees to it that it
// is an array, and nothing is beside an error (R2).
func checkArray(t *testing.T, what string, a api.Array, e api.Errno, want api.Array, wantE api.Errno) {
	t.Helper()
	if !equal(a, want) || e != wantE {
		t.Fatalf("%s: %v, %d, not %v, %d", what, a, e, want, wantE)
	}
	if e == api.OK && !array.Right(a) {
		t.Fatalf("%s: %v is no array", what, a)
	}
}

// checkMon holds what Mon answers against the model.
func checkMon(t *testing.T, g string, b api.Array) {
	t.Helper()
	c, e := shape.Mon(g, b)
	want, wantE := modelMon(g, b)
	checkArray(t, "Mon of "+g+" "+array.Print(b), c, e, want, wantE)
}

// checkDy holds what Dy answers against the model.
func checkDy(t *testing.T, g string, a, b api.Array) {
	t.Helper()
	c, e := shape.Dy(g, a, b)
	want, wantE := modelDy(g, a, b)
	checkArray(t, "Dy of "+array.Print(a)+" "+g+" "+array.Print(b), c, e, want, wantE)
}

// P12.1: which glyphs have functions of one, and of two.
func TestIs(t *testing.T) {
	for _, g := range glyphs() {
		if got := shape.IsMon(g); got != slices.Contains(ofOne(), g) {
			t.Errorf("IsMon of %.9q: %v", g, got)
		}
		if got := shape.IsDy(g); got != slices.Contains(ofTwo(), g) {
			t.Errorf("IsDy of %.9q: %v", g, got)
		}
	}
}

// P12.1: what fills.
func TestFill(t *testing.T) {
	if n := shape.Fill(false); n != 0 {
		t.Errorf("of numbers: %d", n)
	}
	if n := shape.Fill(true); n != 0x20 {
		t.Errorf("of runes: %d", n)
	}
}

// ask is a function's arrays, and what comes of it, or what is wrong.
type ask struct {
	a    api.Array
	g    string
	b    api.Array
	want api.Array
	e    api.Errno
}

// P12.1: functions of one, written out.
func TestMon(t *testing.T) {
	none := api.Array{}
	for _, x := range []ask{
		{g: "⍴", b: list(4, 5), want: list(2)}, {g: "⍴", b: list(4), want: list(1)}, {g: "⍴", b: list(), want: list(0)}, {g: "⍴", b: one(4), want: list()}, {g: "⍴", b: mark('a'), want: list()}, {g: "⍴", b: text("abc"), want: list(3)}, {g: "⍴", b: text(""), want: list(0)}, {g: "⍴", b: long(200), want: list(200)},
		{g: "⍳", b: one(3), want: list(1, 2, 3)}, {g: "⍳", b: one(1), want: list(1)}, {g: "⍳", b: one(0), want: list()}, {g: "⍳", b: list(2), want: list(1, 2)}, {g: "⍳", b: list(0), want: list()}, {g: "⍳", b: one(200), want: long(200)}, {g: "⍳", b: list(200), want: long(200)},
		{g: "⍳", b: one(201), want: none, e: api.ErrLimit}, {g: "⍳", b: list(201), want: none, e: api.ErrLimit}, {g: "⍳", b: one(most), want: none, e: api.ErrLimit}, {g: "⍳", b: one(-1), want: none, e: api.ErrDomain}, {g: "⍳", b: one(-201), want: none, e: api.ErrDomain}, {g: "⍳", b: one(least), want: none, e: api.ErrDomain}, {g: "⍳", b: list(-1), want: none, e: api.ErrDomain},
		{g: "⍳", b: mark('a'), want: none, e: api.ErrDomain}, {g: "⍳", b: mark(1), want: none, e: api.ErrDomain}, {g: "⍳", b: text("a"), want: none, e: api.ErrDomain}, {g: "⍳", b: mark(0x10ffff), want: none, e: api.ErrDomain}, {g: "⍳", b: text("ab"), want: none, e: api.ErrRank}, {g: "⍳", b: text(""), want: none, e: api.ErrRank}, {g: "⍳", b: list(), want: none, e: api.ErrRank}, {g: "⍳", b: list(1, 2), want: none, e: api.ErrRank}, {g: "⍳", b: list(-1, 201), want: none, e: api.ErrRank},
		{g: ",", b: one(3), want: list(3)}, {g: ",", b: mark('a'), want: text("a")}, {g: ",", b: list(3), want: list(3)}, {g: ",", b: list(), want: list()}, {g: ",", b: text(""), want: text("")}, {g: ",", b: text("ab"), want: text("ab")}, {g: ",", b: long(200), want: long(200)},
		{g: "⌽", b: list(1, 2, 3), want: list(3, 2, 1)}, {g: "⌽", b: list(1, 2), want: list(2, 1)}, {g: "⌽", b: list(1), want: list(1)}, {g: "⌽", b: one(1), want: one(1)}, {g: "⌽", b: mark('a'), want: mark('a')}, {g: "⌽", b: text("abc"), want: text("cba")}, {g: "⌽", b: text(""), want: text("")}, {g: "⌽", b: list(), want: list()},
		{g: "↑", b: list(7, 8), want: one(7)}, {g: "↑", b: list(7), want: one(7)}, {g: "↑", b: one(7), want: one(7)}, {g: "↑", b: text("ab"), want: mark('a')}, {g: "↑", b: mark('a'), want: mark('a')}, {g: "↑", b: list(), want: one(0)}, {g: "↑", b: text(""), want: mark(' ')},
		{g: "≢", b: text("abc"), want: one(3)}, {g: "≢", b: one(9), want: one(1)}, {g: "≢", b: mark('a'), want: one(1)}, {g: "≢", b: list(), want: one(0)}, {g: "≢", b: text(""), want: one(0)}, {g: "≢", b: long(200), want: one(200)},
		{g: "↓", b: one(1), want: none, e: api.ErrDomain}, {g: "↓", b: list(), want: none, e: api.ErrDomain}, {g: "+", b: one(1), want: none, e: api.ErrDomain}, {g: "", b: one(1), want: none, e: api.ErrDomain}, {g: "`r", b: one(1), want: none, e: api.ErrDomain}, {g: "⍴⍴", b: one(1), want: none, e: api.ErrDomain},
		{g: "⌽", b: none, want: none, e: api.ErrArray}, {g: "↓", b: none, want: none, e: api.ErrArray}, {g: "", b: none, want: none, e: api.ErrArray}, {g: "⍳", b: api.Array{N: []int64{1, 2}}, want: none, e: api.ErrArray}, {g: "⍳", b: mark(-1), want: none, e: api.ErrArray}, {g: "≢", b: long(201), want: none, e: api.ErrArray}, {g: ",", b: asRunes(list(97, surrogate)), want: none, e: api.ErrArray},
	} {
		if c, e := shape.Mon(x.g, x.b); !equal(c, x.want) || e != x.e {
			t.Errorf("%s%v: %v, %d, not %v, %d", x.g, x.b, c, e, x.want, x.e)
		}
		checkMon(t, x.g, x.b)
	}
}

// checkAsks holds what Dy answers against what is written out, and against the
// model.
func checkAsks(t *testing.T, asks ...ask) {
	t.Helper()
	for _, x := range asks {
		if c, e := shape.Dy(x.g, x.a, x.b); !equal(c, x.want) || e != x.e {
			t.Errorf("%v%s%v: %v, %d, not %v, %d", x.a, x.g, x.b, c, e, x.want, x.e)
		}
		checkDy(t, x.g, x.a, x.b)
	}
}

// P12.2: `⍴`, written out, the chapter's example first.
func TestRepeated(t *testing.T) {
	none := api.Array{}
	checkAsks(t,
		ask{one(5), "⍴", list(1, 2), list(1, 2, 1, 2, 1), 0}, ask{list(5), "⍴", list(1, 2), list(1, 2, 1, 2, 1), 0}, ask{one(1), "⍴", list(7, 8), list(7), 0}, ask{one(2), "⍴", list(7, 8, 9), list(7, 8), 0}, ask{one(4), "⍴", one(7), list(7, 7, 7, 7), 0}, ask{one(1), "⍴", one(7), list(7), 0}, ask{one(2), "⍴", mark('a'), text("aa"), 0}, ask{one(5), "⍴", text("abc"), text("abcab"), 0}, ask{one(200), "⍴", long(200), long(200), 0}, ask{one(200), "⍴", one(0), list(make([]int64, 200)...), 0},
		ask{one(0), "⍴", list(1, 2), list(), 0}, ask{one(0), "⍴", one(1), list(), 0}, ask{one(0), "⍴", list(), list(), 0}, ask{list(0), "⍴", text("ab"), text(""), 0}, ask{one(0), "⍴", text(""), text(""), 0}, ask{one(0), "⍴", mark('a'), text(""), 0},
		ask{one(1), "⍴", list(), none, api.ErrLength}, ask{one(200), "⍴", text(""), none, api.ErrLength}, ask{one(201), "⍴", list(), none, api.ErrLimit}, ask{one(201), "⍴", list(1), none, api.ErrLimit}, ask{one(most), "⍴", list(1), none, api.ErrLimit}, ask{one(1<<32 + 1), "⍴", list(1), none, api.ErrLimit},
		ask{one(-1), "⍴", list(1), none, api.ErrDomain}, ask{one(-1), "⍴", list(), none, api.ErrDomain}, ask{one(-201), "⍴", list(1), none, api.ErrDomain}, ask{one(least), "⍴", list(), none, api.ErrDomain}, ask{mark('a'), "⍴", list(1), none, api.ErrDomain}, ask{mark(1), "⍴", list(1), none, api.ErrDomain}, ask{text("a"), "⍴", list(), none, api.ErrDomain}, ask{mark(0x10ffff), "⍴", list(1), none, api.ErrDomain},
		ask{list(1, 2), "⍴", list(1), none, api.ErrRank}, ask{list(), "⍴", list(1), none, api.ErrRank}, ask{text(""), "⍴", list(1), none, api.ErrRank}, ask{text("ab"), "⍴", list(), none, api.ErrRank}, ask{list(-1, 201), "⍴", list(), none, api.ErrRank},
	)
}

// P12.2: `⍳`, written out.
func TestPlaces(t *testing.T) {
	none := api.Array{}
	checkAsks(t,
		ask{list(5, 6, 5), "⍳", list(6, 5, 9), list(2, 1, 4), 0}, ask{list(5), "⍳", one(5), one(1), 0}, ask{list(5), "⍳", one(6), one(2), 0}, ask{list(5), "⍳", list(5), list(1), 0}, ask{list(1, 2, 3), "⍳", one(3), one(3), 0}, ask{list(7, 7, 7), "⍳", list(7, 7), list(1, 1), 0}, ask{list(least, most), "⍳", list(most, least), list(2, 1), 0}, ask{list(0, 1), "⍳", list(1<<32, 1), list(3, 2), 0},
		ask{text("abca"), "⍳", text("cax"), list(3, 1, 5), 0}, ask{text("abc"), "⍳", mark('b'), one(2), 0}, ask{text("ab"), "⍳", list(97), list(3), 0}, ask{list(97, 98), "⍳", text("ab"), list(3, 3), 0}, ask{list(97), "⍳", mark('a'), one(2), 0}, ask{text("a"), "⍳", one(97), one(2), 0},
		ask{list(), "⍳", one(5), one(1), 0}, ask{list(), "⍳", list(5, 0), list(1, 1), 0}, ask{text(""), "⍳", text("ab"), list(1, 1), 0}, ask{text(""), "⍳", one(5), one(1), 0}, ask{list(), "⍳", list(), list(), 0}, ask{list(1, 2), "⍳", list(), list(), 0}, ask{text("ab"), "⍳", text(""), list(), 0}, ask{long(200), "⍳", one(0), one(201), 0}, ask{long(200), "⍳", long(200), long(200), 0},
		ask{one(5), "⍳", one(5), none, api.ErrRank}, ask{mark('a'), "⍳", mark('a'), none, api.ErrRank}, ask{one(5), "⍳", list(), none, api.ErrRank}, ask{mark('a'), "⍳", list(1), none, api.ErrRank},
	)
}

// P12.2: `,`, written out.
func TestJoined(t *testing.T) {
	none := api.Array{}
	checkAsks(t,
		ask{one(1), ",", list(2, 3), list(1, 2, 3), 0}, ask{list(1, 2), ",", one(3), list(1, 2, 3), 0}, ask{one(1), ",", one(2), list(1, 2), 0}, ask{list(1), ",", list(1), list(1, 1), 0}, ask{list(), ",", list(), list(), 0}, ask{list(), ",", one(1), list(1), 0}, ask{one(1), ",", list(), list(1), 0},
		ask{text("ab"), ",", text("cd"), text("abcd"), 0}, ask{mark('a'), ",", mark('b'), text("ab"), 0}, ask{mark('a'), ",", text("bc"), text("abc"), 0},
		ask{text("a"), ",", list(), text("a"), 0}, ask{list(), ",", text("a"), text("a"), 0}, ask{list(), ",", mark('a'), text("a"), 0}, ask{text(""), ",", list(1), list(1), 0}, ask{list(1), ",", text(""), list(1), 0}, ask{one(1), ",", text(""), list(1), 0}, ask{text(""), ",", one(1), list(1), 0}, ask{text(""), ",", text("a"), text("a"), 0}, ask{text("a"), ",", text(""), text("a"), 0}, ask{text(""), ",", text(""), text(""), 0}, ask{text(""), ",", list(), list(), 0}, ask{list(), ",", text(""), list(), 0},
		ask{text("a"), ",", one(1), none, api.ErrDomain}, ask{one(1), ",", text("a"), none, api.ErrDomain}, ask{mark('a'), ",", one(97), none, api.ErrDomain}, ask{list(97), ",", mark('a'), none, api.ErrDomain},
		ask{long(200), ",", list(), long(200), 0}, ask{text(""), ",", long(200), long(200), 0}, ask{list(1), ",", long(200), none, api.ErrLimit}, ask{long(200), ",", one(1), none, api.ErrLimit}, ask{long(200), ",", long(200), none, api.ErrLimit}, ask{long(200), ",", mark('a'), none, api.ErrDomain}, ask{long(150), ",", asRunes(long(51)), none, api.ErrDomain}, ask{asRunes(long(150)), ",", asRunes(long(51)), none, api.ErrLimit},
	)
	for n := range int64(201) {
		for m := 195 - n; m < 206-n; m++ {
			if m >= 0 {
				checkDy(t, ",", long(n), long(m))
				checkDy(t, ",", asRunes(long(n)), long(m))
				checkDy(t, ",", long(n), asRunes(long(m)))
				checkDy(t, ",", asRunes(long(n)), asRunes(long(m)))
			}
		}
	}
}

// P12.2: `⌽`, written out, the chapter's example first.
func TestTurned(t *testing.T) {
	none := api.Array{}
	checkAsks(t,
		ask{one(1), "⌽", text("abc"), text("bca"), 0}, ask{one(2), "⌽", text("abc"), text("cab"), 0}, ask{one(3), "⌽", text("abc"), text("abc"), 0}, ask{one(4), "⌽", text("abc"), text("bca"), 0}, ask{list(1), "⌽", list(1, 2), list(2, 1), 0}, ask{one(0), "⌽", list(1, 2), list(1, 2), 0}, ask{one(-1), "⌽", list(1, 2, 3), list(3, 1, 2), 0}, ask{one(-2), "⌽", list(1, 2, 3), list(2, 3, 1), 0}, ask{one(-3), "⌽", list(1, 2, 3), list(1, 2, 3), 0}, ask{one(-4), "⌽", list(1, 2, 3), list(3, 1, 2), 0},
		ask{one(least), "⌽", list(1, 2), list(1, 2), 0}, ask{one(least), "⌽", list(1, 2, 3), list(2, 3, 1), 0}, ask{one(most), "⌽", list(1, 2, 3), list(2, 3, 1), 0}, ask{one(most), "⌽", list(1, 2), list(2, 1), 0}, ask{one(201), "⌽", list(1, 2), list(2, 1), 0}, ask{one(-201), "⌽", list(1, 2), list(2, 1), 0}, ask{one(1 << 32), "⌽", list(1, 2, 3), list(2, 3, 1), 0},
		ask{one(5), "⌽", one(3), one(3), 0}, ask{one(5), "⌽", mark('a'), mark('a'), 0}, ask{one(least), "⌽", one(3), one(3), 0}, ask{one(5), "⌽", list(3), list(3), 0}, ask{one(5), "⌽", list(), list(), 0}, ask{one(-5), "⌽", text(""), text(""), 0}, ask{one(least), "⌽", list(), list(), 0}, ask{one(0), "⌽", list(), list(), 0},
		ask{mark('a'), "⌽", list(1), none, api.ErrDomain}, ask{text("a"), "⌽", list(), none, api.ErrDomain}, ask{mark(0), "⌽", one(1), none, api.ErrDomain}, ask{list(1, 2), "⌽", list(1, 2), none, api.ErrRank}, ask{list(), "⌽", list(), none, api.ErrRank}, ask{text("ab"), "⌽", one(1), none, api.ErrRank},
	)
}

// P12.2: `↑`, written out, the chapter's example first.
func TestTaken(t *testing.T) {
	none := api.Array{}
	checkAsks(t,
		ask{one(-3), "↑", list(1, 2), list(0, 1, 2), 0}, ask{one(2), "↑", list(7, 8, 9), list(7, 8), 0}, ask{one(-2), "↑", list(7, 8, 9), list(8, 9), 0}, ask{one(3), "↑", list(7, 8, 9), list(7, 8, 9), 0}, ask{one(-3), "↑", list(7, 8, 9), list(7, 8, 9), 0}, ask{one(5), "↑", list(7, 8, 9), list(7, 8, 9, 0, 0), 0}, ask{list(-5), "↑", list(7, 8, 9), list(0, 0, 7, 8, 9), 0}, ask{list(1), "↑", list(7, 8), list(7), 0}, ask{one(-1), "↑", list(7, 8), list(8), 0},
		ask{one(3), "↑", text("a"), text("a  "), 0}, ask{one(-3), "↑", mark('a'), text("  a"), 0}, ask{one(2), "↑", text("abc"), text("ab"), 0}, ask{one(2), "↑", text(""), text("  "), 0}, ask{one(-2), "↑", text(""), text("  "), 0}, ask{one(2), "↑", list(), list(0, 0), 0}, ask{one(-1), "↑", list(), list(0), 0}, ask{one(1), "↑", one(5), list(5), 0}, ask{one(-2), "↑", one(5), list(0, 5), 0},
		ask{one(0), "↑", list(1, 2), list(), 0}, ask{one(0), "↑", text("ab"), text(""), 0}, ask{one(0), "↑", one(1), list(), 0}, ask{one(0), "↑", mark('a'), text(""), 0}, ask{one(0), "↑", list(), list(), 0},
		ask{one(200), "↑", long(200), long(200), 0}, ask{one(-200), "↑", long(200), long(200), 0}, ask{one(200), "↑", list(), list(make([]int64, 200)...), 0}, ask{one(-200), "↑", list(), list(make([]int64, 200)...), 0},
		ask{one(201), "↑", list(1), none, api.ErrLimit}, ask{one(-201), "↑", list(1), none, api.ErrLimit}, ask{one(201), "↑", long(200), none, api.ErrLimit}, ask{one(most), "↑", list(), none, api.ErrLimit}, ask{one(least), "↑", list(), none, api.ErrLimit}, ask{list(-201), "↑", list(1), none, api.ErrLimit},
		ask{mark('a'), "↑", list(1), none, api.ErrDomain}, ask{mark(0x10ffff), "↑", list(1), none, api.ErrDomain}, ask{text("a"), "↑", list(), none, api.ErrDomain}, ask{list(1, 2), "↑", list(1), none, api.ErrRank}, ask{list(), "↑", list(1), none, api.ErrRank}, ask{list(201, 201), "↑", list(1), none, api.ErrRank}, ask{text(""), "↑", list(1), none, api.ErrRank}, ask{text("ab"), "↑", list(1), none, api.ErrRank},
	)
}

// P12.2: `↓`, written out.
func TestDropped(t *testing.T) {
	none := api.Array{}
	checkAsks(t,
		ask{one(1), "↓", list(7, 8, 9), list(8, 9), 0}, ask{one(-1), "↓", list(7, 8, 9), list(7, 8), 0}, ask{one(2), "↓", list(7, 8, 9), list(9), 0}, ask{one(-2), "↓", list(7, 8, 9), list(7), 0}, ask{list(3), "↓", list(7, 8, 9), list(), 0}, ask{one(-3), "↓", list(7, 8, 9), list(), 0}, ask{one(4), "↓", list(7, 8, 9), list(), 0}, ask{one(-4), "↓", list(7, 8, 9), list(), 0}, ask{one(0), "↓", list(7, 8, 9), list(7, 8, 9), 0},
		ask{one(most), "↓", list(7), list(), 0}, ask{one(least), "↓", list(7), list(), 0}, ask{one(least), "↓", list(), list(), 0}, ask{one(201), "↓", long(200), list(), 0}, ask{one(-201), "↓", long(200), list(), 0}, ask{one(1 << 32), "↓", list(7), list(), 0}, ask{one(-1 << 32), "↓", list(7), list(), 0},
		ask{one(9), "↓", text("a"), text(""), 0}, ask{one(1), "↓", text("abc"), text("bc"), 0}, ask{one(-1), "↓", text("abc"), text("ab"), 0}, ask{one(0), "↓", one(5), list(5), 0}, ask{one(0), "↓", mark('a'), text("a"), 0}, ask{one(1), "↓", one(5), list(), 0}, ask{one(-1), "↓", mark('a'), text(""), 0}, ask{one(1), "↓", list(), list(), 0}, ask{one(0), "↓", text(""), text(""), 0},
		ask{mark('a'), "↓", list(1), none, api.ErrDomain}, ask{text("a"), "↓", list(), none, api.ErrDomain}, ask{list(1, 2), "↓", list(1), none, api.ErrRank}, ask{list(), "↓", list(1), none, api.ErrRank}, ask{text("ab"), "↓", list(1), none, api.ErrRank},
	)
}

// P12.2: `≢`, and which error is told of several, written out.
func TestDiffers(t *testing.T) {
	none := api.Array{}
	checkAsks(t,
		ask{list(1), "≢", list(1), one(0), 0}, ask{list(1), "≢", one(1), one(1), 0}, ask{one(1), "≢", one(1), one(0), 0}, ask{one(1), "≢", one(2), one(1), 0}, ask{list(1, 2), "≢", list(1, 2), one(0), 0}, ask{list(1, 2), "≢", list(2, 1), one(1), 0}, ask{list(1, 2), "≢", list(1), one(1), 0}, ask{text("ab"), "≢", text("ab"), one(0), 0}, ask{text("ab"), "≢", text("abc"), one(1), 0}, ask{text("ab"), "≢", list(97, 98), one(1), 0}, ask{mark('a'), "≢", one(97), one(1), 0}, ask{mark('a'), "≢", text("a"), one(1), 0}, ask{list(), "≢", list(), one(0), 0}, ask{list(), "≢", api.Array{List: true, N: []int64{}}, one(0), 0}, ask{text(""), "≢", list(), one(1), 0}, ask{text(""), "≢", text(""), one(0), 0},
		ask{one(1), "+", one(1), none, api.ErrDomain}, ask{list(1, 2), "", list(), none, api.ErrDomain}, ask{one(1), "`r", one(1), none, api.ErrDomain}, ask{one(1), "⍴⍴", one(1), none, api.ErrDomain}, ask{one(1), "=", one(1), none, api.ErrDomain},
		ask{none, "≢", none, none, api.ErrArray}, ask{none, "+", one(1), none, api.ErrArray}, ask{one(1), "+", none, none, api.ErrArray}, ask{list(1, 2), "⍴", none, none, api.ErrArray}, ask{mark(surrogate), "⍴", list(), none, api.ErrArray}, ask{long(201), "⍳", one(1), none, api.ErrArray}, ask{one(201), "⍴", long(201), none, api.ErrArray}, ask{one(1), "⍳", mark(-1), none, api.ErrArray}, ask{api.Array{N: []int64{1, 2}}, "↓", list(1), none, api.ErrArray},
	)
}

// P12.1, P12.2: all functions, and what is none, of all arrays, and what is none
// (R1).
func TestFunctions(t *testing.T) {
	arrays := pool()
	for _, g := range glyphs() {
		for _, a := range arrays {
			checkMon(t, g, a)
			for _, b := range arrays {
				checkDy(t, g, a, b)
			}
		}
	}
}

// dice are numbers that look like chance, and are the same in every run.
type dice struct{ state uint64 }

// roll is a number from 0 on, less than n.
func (d *dice) roll(n int) int {
	d.state = d.state*6364136223846793005 + 1442695040888963407
	return int(d.state>>33) % n
}

// array is any array, most often of few items, and mostly of small numbers.
func (d *dice) array() api.Array {
	a := api.Array{List: d.roll(3) > 0, Runes: d.roll(4) == 0, N: make([]int64, 1)}
	if a.List {
		a.N = make([]int64, d.roll(d.roll(12)+1))
	}
	for i := range a.N {
		a.N[i] = int64(d.roll(4))
		if !a.Runes && d.roll(3) == 0 {
			a.N[i] -= int64(d.roll(8))
		}
		if !a.Runes && d.roll(20) == 0 {
			a.N[i] = []int64{most, least, 200, -200, 201, -201}[d.roll(6)]
		}
	}
	return a
}

// P12.1, P12.2: other arrays.
func TestOthers(t *testing.T) {
	d := &dice{3}
	for range 200000 {
		a, b, g := d.array(), d.array(), ofTwo()[d.roll(7)]
		checkMon(t, g, a)
		checkDy(t, g, a, b)
	}
}

// P12.2: all numbers about the limits, beside lists of some lengths.
func TestNumbers(t *testing.T) {
	lengths := []int64{0, 1, 2, 3, 7, 100, 199, 200}
	for n := int64(-405); n < 406; n++ {
		checkMon(t, "⍳", one(n))
		for _, m := range lengths {
			for _, g := range []string{"⍴", "⌽", "↑", "↓"} {
				checkDy(t, g, one(n), long(m))
				checkDy(t, g, list(n), asRunes(long(m)))
			}
		}
		for _, g := range []string{"⍴", "⌽", "↑", "↓"} {
			checkDy(t, g, one(n), one(5))
			checkDy(t, g, one(n), mark('a'))
		}
	}
}

// made is what comes of a function of two that must be right.
func made(t *testing.T, a api.Array, g string, b api.Array) api.Array {
	t.Helper()
	c, e := shape.Dy(g, a, b)
	if e != api.OK {
		t.Fatalf("%v%s%v: %d", a, g, b, e)
	}
	return c
}

// P12.3: what is reversed twice is as it was, and so is what is turned to and
// fro.
func TestReversedTwice(t *testing.T) {
	d := &dice{7}
	for range 20000 {
		b := d.array()
		c, _ := shape.Mon("⌽", b)
		c, e := shape.Mon("⌽", c)
		if !array.Same(c, b) || e != api.OK {
			t.Fatalf("%v, reversed twice: %v, %d", b, c, e)
		}
		n := int64(d.roll(20)) - 10
		if c := made(t, one(-n), "⌽", made(t, one(n), "⌽", b)); !array.Same(c, b) {
			t.Fatalf("%v, turned by %d and back: %v", b, n, c)
		}
	}
}

// P12.3: what is taken and dropped are the whole.
func TestTakenAndDropped(t *testing.T) {
	d := &dice{11}
	for range 20000 {
		b := d.array()
		whole, _ := shape.Mon(",", b)
		n := int64(d.roll(len(b.N) + 1))
		first, behind := made(t, one(n), "↑", b), made(t, one(n), "↓", b)
		if c := made(t, first, ",", behind); !array.Same(c, whole) {
			t.Fatalf("%v, %d taken and dropped: %v", b, n, c)
		}
		last, ahead := made(t, one(-n), "↑", b), made(t, one(-n), "↓", b)
		if c := made(t, ahead, ",", last); !array.Same(c, whole) {
			t.Fatalf("%v, %d dropped and taken: %v", b, -n, c)
		}
	}
}

// P12.3: what is joined has the items of both.
func TestJoinedItems(t *testing.T) {
	d := &dice{13}
	for range 20000 {
		a, b := d.array(), d.array()
		c, e := shape.Dy(",", a, b)
		if e == api.OK && (!c.List || !slices.Equal(c.N, append(slices.Clone(a.N), b.N...))) {
			t.Fatalf("%v,%v: %v", a, b, c)
		}
	}
}

// worn is a copy of a list in the middle of other numbers.
func worn(n []int64) (api.Array, []int64) {
	room := append(append([]int64{77, 77}, n...), 77, 77, 77)
	return api.Array{List: true, N: room[2 : 2+len(n)]}, room
}

// R3: what is handed in is neither written into, nor its spare room.
func TestHandedIn(t *testing.T) {
	others := []api.Array{one(0), one(1), one(2), one(-2), one(9), one(-9), list(1, 2), list(), text("ab"), mark('a')}
	for _, g := range glyphs() {
		for _, n := range [][]int64{nil, {1}, {2}, {0, 1}, {4, 97, 0}} {
			for _, runes := range []bool{false, true} {
				a, room := worn(n)
				a.Runes = runes
				before := slices.Clone(room)
				shape.Mon(g, a)
				shape.Dy(g, a, a)
				for _, b := range others {
					shape.Dy(g, a, b)
					shape.Dy(g, b, a)
				}
				if !slices.Equal(room, before) {
					t.Fatalf("%s of %v writes: %v", g, before, room)
				}
			}
		}
	}
}

// spoil writes over a list and its spare room.
func spoil(n []int64) {
	for i := range n[:cap(n)] {
		n[:cap(n)][i] = 99
	}
}

// R3: what is answered is new memory, spare room too.
func TestNewMemory(t *testing.T) {
	others := []api.Array{one(0), one(1), one(2), one(3), one(-1), one(-3), one(5), list(), list(1, 2), text("")}
	for _, g := range ofTwo() {
		for _, n := range [][]int64{{}, {1}, {1, 2, 3}} {
			a, room := worn(n)
			before := slices.Clone(room)
			for _, b := range others {
				for _, ask := range []func() (api.Array, api.Errno){
					func() (api.Array, api.Errno) { return shape.Mon(g, a) },
					func() (api.Array, api.Errno) { return shape.Dy(g, a, b) },
					func() (api.Array, api.Errno) { return shape.Dy(g, b, a) },
					func() (api.Array, api.Errno) { return shape.Dy(g, a, a) },
				} {
					c, e := ask()
					again, _ := ask()
					want := slices.Clone(again.N)
					spoil(c.N)
					d, f := ask()
					if !slices.Equal(room, before) || !slices.Equal(again.N, want) || !slices.Equal(d.N, want) || e != f {
						t.Fatalf("%s of %v and %v shares memory", g, a, b)
					}
				}
			}
		}
	}
}

// R4: what a call answers hangs on its arguments alone.
func TestAgain(t *testing.T) {
	for range 3 {
		for _, g := range glyphs() {
			shape.Dy(g, api.Array{}, one(1))
			shape.Dy(g, list(1, 2), list())
			shape.Mon(g, text("ab"))
			checkDy(t, g, one(2), list(1, 0, 5))
			checkDy(t, g, list(5, 1), list(1, 0, 5))
			checkMon(t, g, list(3))
		}
	}
}

// R5: lists that are long are none.
func TestLong(t *testing.T) {
	for _, g := range ofTwo() {
		for _, a := range []api.Array{long(1 << 17), asRunes(long(1 << 15)), {N: make([]int64, 1<<17)}} {
			checkMon(t, g, a)
			checkDy(t, g, a, a)
			checkDy(t, g, one(1), a)
			checkDy(t, g, a, one(1))
		}
	}
}
