package number_test

import (
	"math"
	"math/big"
	"slices"
	"strings"
	"testing"

	"diaeresis/api"
	"diaeresis/glyph"
	"diaeresis/number"
)

const (
	most  = math.MaxInt64
	least = math.MinInt64
)

// noGlyphs are texts that are no glyph.
func noGlyphs() []string {
	list := []string{"", " ", "a", "0", "x", "++", "+ ", " +", "+-", "=<", "<=", "≤≥", "'", "`", "*", "−", "∗", "∣", "∼", "!", "^", "\x00", "+\x00", "\xff", "\xe2", "\xc3", "\x97", "\xe2\x8c", "×\xff", strings.Repeat("+", 1<<16)}
	for _, g := range glyph.All() {
		if d, ok := glyph.Digraph(g); ok {
			list = append(list, d)
		}
		list = append(list, g+g, g+" ", "("+g)
	}
	return list
}

// texts are all glyphs, and texts that are none.
func texts() []string {
	return append(glyph.All(), noGlyphs()...)
}

// checkDy holds what Dy answers against the model.
func checkDy(t *testing.T, g string, x, y int64) {
	t.Helper()
	want, wantE := modelDy(g, x, y)
	if n, e := number.Dy(g, x, y); n != want || e != wantE {
		t.Fatalf("Dy of %q, %d, %d: %d, %d, not %d, %d", g, x, y, n, e, want, wantE)
	}
}

// checkMon holds what Mon answers against the model.
func checkMon(t *testing.T, g string, y int64) {
	t.Helper()
	want, wantE := modelMon(g, y)
	if n, e := number.Mon(g, y); n != want || e != wantE {
		t.Fatalf("Mon of %q, %d: %d, %d, not %d, %d", g, y, n, e, want, wantE)
	}
}

// P10.1: which glyphs have functions.
func TestGlyphs(t *testing.T) {
	for _, g := range texts() {
		if got := number.IsDy(g); got != slices.Contains(two, g) {
			t.Errorf("IsDy of %q: %v", g, got)
		}
		if got := number.IsMon(g); got != slices.Contains(one, g) {
			t.Errorf("IsMon of %q: %v", g, got)
		}
	}
}

// P10.1: the numbers that change nothing, and the glyphs that have none: those,
// too, of which some number changes nothing, but which the chapter doesn't name.
func TestUnit(t *testing.T) {
	units := map[string]int64{"+": 0, "×": 1, "∧": 1, "∨": 0}
	for _, g := range texts() {
		want, wantOk := units[g]
		if n, ok := number.Unit(g); n != want || ok != wantOk {
			t.Errorf("Unit of %q: %d, %v", g, n, ok)
		}
	}
	for g, x := range units {
		for _, y := range edges() {
			n, e := number.Dy(g, x, y)
			bit := y == 0 || y == 1
			if (bit || g == "+" || g == "×") && (n != y || e != api.OK) {
				t.Errorf("Dy of %s, %d, %d: %d, %d", g, x, y, n, e)
			}
		}
	}
}

// P10.2: functions of two, written out, the chapter's examples first.
func TestDy(t *testing.T) {
	for _, x := range []struct {
		g       string
		x, y, n int64
		e       api.Errno
	}{
		{"÷", 7, 2, 0, api.ErrDivide}, {"|", 3, -1, 2, 0}, {"|", -3, 1, -2, 0},
		{"+", 2, -5, -3, 0}, {"+", most, 0, most, 0}, {"+", most, 1, 0, api.ErrOver}, {"+", 1, most, 0, api.ErrOver}, {"+", least, -1, 0, api.ErrOver}, {"+", least, least, 0, api.ErrOver}, {"+", most, most, 0, api.ErrOver}, {"+", least, most, -1, 0}, {"+", most - 1, 1, most, 0}, {"+", least + 1, -1, least, 0},
		{"-", 2, 5, -3, 0}, {"-", least, 0, least, 0}, {"-", 0, least, 0, api.ErrOver}, {"-", -1, least, most, 0}, {"-", least, least, 0, 0}, {"-", least, 1, 0, api.ErrOver}, {"-", most, -1, 0, api.ErrOver}, {"-", most, least, 0, api.ErrOver}, {"-", least, -1, least + 1, 0}, {"-", -2, most, 0, api.ErrOver}, {"-", -1, most, least, 0},
		{"×", 6, -7, -42, 0}, {"×", -6, -7, 42, 0}, {"×", 0, least, 0, 0}, {"×", least, 0, 0, 0}, {"×", least, 1, least, 0}, {"×", least, -1, 0, api.ErrOver}, {"×", -1, least, 0, api.ErrOver}, {"×", most, -1, -most, 0}, {"×", 1 << 31, 1 << 32, 0, api.ErrOver}, {"×", -1 << 31, 1 << 32, least, 0}, {"×", 1 << 32, 1 << 32, 0, api.ErrOver}, {"×", least, least, 0, api.ErrOver}, {"×", most, most, 0, api.ErrOver}, {"×", least, 2, 0, api.ErrOver}, {"×", 3037000499, 3037000499, 9223372030926249001, 0}, {"×", 3037000500, 3037000500, 0, api.ErrOver}, {"×", 454279, 20303320287433, most, 0}, {"×", -454279, 20303320287433, -most, 0},
		{"÷", 12, -4, -3, 0}, {"÷", -12, -4, 3, 0}, {"÷", 0, 5, 0, 0}, {"÷", 0, least, 0, 0}, {"÷", 0, 0, 1, 0}, {"÷", 5, 0, 0, api.ErrDivide}, {"÷", least, 0, 0, api.ErrDivide}, {"÷", least, -1, 0, api.ErrOver}, {"÷", least, 1, least, 0}, {"÷", least, least, 1, 0}, {"÷", most, -1, -most, 0}, {"÷", 1, 2, 0, api.ErrDivide}, {"÷", -7, 2, 0, api.ErrDivide}, {"÷", 1, least, 0, api.ErrDivide}, {"÷", most, least, 0, api.ErrDivide},
		{"⌈", 2, -3, 2, 0}, {"⌈", -3, 2, 2, 0}, {"⌈", least, most, most, 0}, {"⌊", 2, -3, -3, 0}, {"⌊", -3, 2, -3, 0}, {"⌊", most, least, least, 0}, {"⌊", 4, 4, 4, 0},
		{"|", 3, 7, 1, 0}, {"|", 3, 6, 0, 0}, {"|", 3, -6, 0, 0}, {"|", -3, -1, -1, 0}, {"|", -3, 6, 0, 0}, {"|", -3, -7, -1, 0}, {"|", -3, 7, -2, 0}, {"|", 0, 5, 5, 0}, {"|", 0, -5, -5, 0}, {"|", 0, 0, 0, 0}, {"|", 5, 0, 0, 0}, {"|", -5, 0, 0, 0}, {"|", 0, least, least, 0}, {"|", 1, least, 0, 0}, {"|", -1, least, 0, 0}, {"|", least, least, 0, 0}, {"|", least, 1, least + 1, 0}, {"|", least, most, -1, 0}, {"|", most, least, most - 1, 0}, {"|", most, -1, most - 1, 0}, {"|", least, -1, -1, 0},
		{"=", 3, 3, 1, 0}, {"=", 3, -3, 0, 0}, {"=", 0, 1 << 32, 0, 0}, {"≠", 3, 3, 0, 0}, {"≠", 3, 4, 1, 0},
		{"<", 1, 2, 1, 0}, {"<", 2, 2, 0, 0}, {"<", 3, 2, 0, 0}, {"<", least, most, 1, 0}, {">", 1, 2, 0, 0}, {">", 2, 2, 0, 0}, {">", 3, 2, 1, 0}, {">", most, least, 1, 0},
		{"≤", 1, 2, 1, 0}, {"≤", 2, 2, 1, 0}, {"≤", 3, 2, 0, 0}, {"≤", most, least, 0, 0}, {"≥", 1, 2, 0, 0}, {"≥", 2, 2, 1, 0}, {"≥", 3, 2, 1, 0}, {"≥", least, most, 0, 0},
		{"∧", 0, 0, 0, 0}, {"∧", 0, 1, 0, 0}, {"∧", 1, 0, 0, 0}, {"∧", 1, 1, 1, 0}, {"∨", 0, 0, 0, 0}, {"∨", 0, 1, 1, 0}, {"∨", 1, 0, 1, 0}, {"∨", 1, 1, 1, 0},
		{"∧", 0, 2, 0, api.ErrDomain}, {"∧", 2, 0, 0, api.ErrDomain}, {"∧", -1, 1, 0, api.ErrDomain}, {"∧", 0, least, 0, api.ErrDomain}, {"∨", 1, 2, 0, api.ErrDomain}, {"∨", 2, 1, 0, api.ErrDomain}, {"∨", 1, -1, 0, api.ErrDomain}, {"∨", most, least, 0, api.ErrDomain}, {"∨", 1 << 32, 1, 0, api.ErrDomain},
		{"~", 0, 1, 0, api.ErrDomain}, {"⍴", 0, 0, 0, api.ErrDomain}, {"", 0, 0, 0, api.ErrDomain}, {"`d", 4, 2, 0, api.ErrDomain}, {"`x", 4, 2, 0, api.ErrDomain}, {"÷÷", 1, 0, 0, api.ErrDomain}, {"+\x00", most, 1, 0, api.ErrDomain},
	} {
		if n, e := number.Dy(x.g, x.x, x.y); n != x.n || e != x.e {
			t.Errorf("Dy of %q, %d, %d: %d, %d, not %d, %d", x.g, x.x, x.y, n, e, x.n, x.e)
		}
	}
}

// P10.2: functions of one, written out.
func TestMon(t *testing.T) {
	for _, x := range []struct {
		g    string
		y, n int64
		e    api.Errno
	}{
		{"+", 3, 3, 0}, {"+", least, least, 0}, {"+", 0, 0, 0},
		{"-", 3, -3, 0}, {"-", 0, 0, 0}, {"-", -3, 3, 0}, {"-", most, -most, 0}, {"-", -most, most, 0}, {"-", least, 0, api.ErrOver},
		{"×", 9, 1, 0}, {"×", 0, 0, 0}, {"×", -9, -1, 0}, {"×", most, 1, 0}, {"×", least, -1, 0}, {"×", 1 << 32, 1, 0},
		{"÷", 1, 1, 0}, {"÷", -1, -1, 0}, {"÷", 0, 0, api.ErrDivide}, {"÷", 2, 0, api.ErrDivide}, {"÷", -2, 0, api.ErrDivide}, {"÷", most, 0, api.ErrDivide}, {"÷", least, 0, api.ErrDivide},
		{"⌈", -3, -3, 0}, {"⌈", most, most, 0}, {"⌊", -3, -3, 0}, {"⌊", least, least, 0},
		{"|", 3, 3, 0}, {"|", -3, 3, 0}, {"|", 0, 0, 0}, {"|", most, most, 0}, {"|", -most, most, 0}, {"|", least, 0, api.ErrOver},
		{"~", 0, 1, 0}, {"~", 1, 0, 0}, {"~", 2, 0, api.ErrDomain}, {"~", -1, 0, api.ErrDomain}, {"~", least, 0, api.ErrDomain}, {"~", 1 << 32, 0, api.ErrDomain},
		{"=", 1, 0, api.ErrDomain}, {"≠", 1, 0, api.ErrDomain}, {"<", 1, 0, api.ErrDomain}, {">", 1, 0, api.ErrDomain}, {"≤", 1, 0, api.ErrDomain}, {"≥", 1, 0, api.ErrDomain}, {"∧", 1, 0, api.ErrDomain}, {"∨", 1, 0, api.ErrDomain}, {"⍳", 1, 0, api.ErrDomain}, {"", 1, 0, api.ErrDomain}, {"`d", 0, 0, api.ErrDomain}, {"~~", 1, 0, api.ErrDomain},
	} {
		if n, e := number.Mon(x.g, x.y); n != x.n || e != x.e {
			t.Errorf("Mon of %q, %d: %d, %d, not %d, %d", x.g, x.y, n, e, x.n, x.e)
		}
	}
}

// multiples are those of x, from 40 times to -40 times.
func multiples(x int64) []int64 {
	var list []int64
	for k := int64(40); k >= -40; k-- {
		list = append(list, k*x)
	}
	return list
}

// wordsQuotient is the chapter's of small numbers: if just one number times y is
// x, that one.
func wordsQuotient(x, y int64) (int64, api.Errno) {
	var list []int64
	for i, m := range multiples(y) {
		if m == x {
			list = append(list, int64(40-i))
		}
	}
	switch {
	case x == 0 && y == 0:
		return 1, api.OK
	case len(list) != 1:
		return 0, api.ErrDivide
	}
	return list[0], api.OK
}

// wordsResidue is the chapter's of small numbers: y less the multiple of x that
// is next to it, not above it, or, of x below 0, not below it.
func wordsResidue(x, y int64) int64 {
	list := multiples(x)
	slices.Sort(list)
	switch {
	case x > 0:
		list = slices.DeleteFunc(list, func(m int64) bool { return m > y })
		return y - list[len(list)-1]
	case x < 0:
		list = slices.DeleteFunc(list, func(m int64) bool { return m < y })
		return y - list[0]
	}
	return y
}

// P10.2: quotients and residues of small numbers, by the chapter's words.
func TestWords(t *testing.T) {
	for x := int64(-12); x <= 12; x++ {
		for y := int64(-12); y <= 12; y++ {
			want, wantE := wordsQuotient(x, y)
			if n, e := number.Dy("÷", x, y); n != want || e != wantE {
				t.Errorf("%d÷%d: %d, %d, not %d, %d", x, y, n, e, want, wantE)
			}
			want = wordsResidue(x, y)
			if n, e := number.Dy("|", x, y); n != want || e != api.OK {
				t.Errorf("%d|%d: %d, %d, not %d", x, y, n, e, want)
			}
		}
	}
}

// P10.1, P10.2: all functions of two, of numbers at the edges.
func TestEdgesOfTwo(t *testing.T) {
	list := edges()
	for _, g := range two {
		for _, x := range list {
			for _, y := range list {
				checkDy(t, g, x, y)
			}
		}
	}
}

// P10.2: all functions of one, of numbers at the edges, and what has no
// function (R1: any texts).
func TestEdgesOfOne(t *testing.T) {
	for _, g := range texts() {
		for _, y := range []int64{0, 1, -1, 2, most, least} {
			checkMon(t, g, y)
			checkDy(t, g, 0, y)
			checkDy(t, g, 1, y)
			checkDy(t, g, least, y)
		}
	}
	for _, g := range one {
		for _, y := range edges() {
			checkMon(t, g, y)
		}
	}
}

// dice are numbers that look like chance, and are the same in every run.
type dice struct{ state uint64 }

// roll is a number of any length: the shift takes bits away.
func (d *dice) roll() int64 {
	d.state = d.state*6364136223846793005 + 1442695040888963407
	high := d.state
	d.state = d.state*6364136223846793005 + 1442695040888963407
	n := int64(high ^ d.state>>33)
	return n >> (d.state >> 58)
}

// P10.2: other numbers of all lengths.
func TestOthers(t *testing.T) {
	d := &dice{7}
	for range 20000 {
		x, y := d.roll(), d.roll()
		for _, g := range two {
			checkDy(t, g, x, y)
		}
		for _, g := range one {
			checkMon(t, g, y)
		}
		if y != 0 {
			checkDy(t, "÷", x-x%y, y)
		}
	}
}

// P10.2: products near to the greatest and the least number.
func TestProductsAtTheEdge(t *testing.T) {
	d := &dice{11}
	for range 20000 {
		x := d.roll()
		if x == 0 || x == -1 {
			continue
		}
		for _, whole := range []int64{most, least} {
			for more := int64(-1); more <= 1; more++ {
				checkDy(t, "×", x, whole/x+more)
				checkDy(t, "×", whole/x+more, x)
			}
		}
	}
}

// checkBack sees to it that what g made of x and y is taken back by h and y.
func checkBack(t *testing.T, g, h string, x, y int64) {
	t.Helper()
	n, e := number.Dy(g, x, y)
	if e != api.OK {
		return
	}
	if back, e := number.Dy(h, n, y); back != x || e != api.OK {
		t.Fatalf("(%d%s%d)%s%d: %d, %d", x, g, y, h, y, back, e)
	}
}

// checkResidue sees to it that a residue lies from 0 up to its x, and differs
// from y by a multiple.
func checkResidue(t *testing.T, x, y int64) {
	t.Helper()
	r, e := number.Dy("|", x, y)
	within := x > 0 && 0 <= r && r < x || x < 0 && x < r && r <= 0 || x == 0 && r == y
	less := new(big.Int).Sub(big.NewInt(y), big.NewInt(r))
	if x != 0 {
		less.Rem(less, big.NewInt(x))
	}
	if e != api.OK || !within || less.Sign() != 0 {
		t.Fatalf("%d|%d: %d, %d", x, y, r, e)
	}
}

// P10.3: what is added is taken away again, what is multiplied divided; where a
// residue lies.
func TestBack(t *testing.T) {
	list := edges()
	for _, x := range list {
		for _, y := range list {
			checkBack(t, "+", "-", x, y)
			checkBack(t, "-", "+", x, y)
			if y != 0 {
				checkBack(t, "×", "÷", x, y)
			}
			checkBack(t, "÷", "×", x, y)
			checkResidue(t, x, y)
		}
	}
}

// R4: what a call answers hangs on its arguments alone.
func TestAgain(t *testing.T) {
	for range 3 {
		for _, g := range slices.Concat(two, []string{"", "⍴"}) {
			number.Dy(g, least, 0)
			checkDy(t, g, 6, 3)
			number.Mon(g, least)
			checkMon(t, g, 1)
		}
	}
}
