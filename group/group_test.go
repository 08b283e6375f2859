package group_test

import (
	"math"
	"slices"
	"strings"
	"testing"
	"unsafe"

	"diaeresis/api"
	"diaeresis/group"
	"diaeresis/lex"
)

// of are tokens of a short form: each rune of ()[]{}⋄:← is a sign, but [ and ],
// which stand for what has a bracket's glyph and is no sign; all others are
// names.
func of(s string) []api.Token {
	var list []api.Token
	for _, r := range s {
		switch {
		case strings.ContainsRune("(){}⋄:←", r):
			list = append(list, api.Token{Kind: api.TokSign, Text: string(r), Glyph: string(r)})
		case r == '[':
			list = append(list, api.Token{Kind: api.TokOther, Text: "(", Glyph: "("})
		case r == ']':
			list = append(list, api.Token{Kind: api.TokFn, Text: "}", Glyph: "}"})
		default:
			list = append(list, api.Token{Kind: api.TokName, Text: string(r)})
		}
	}
	return list
}

// balanced tells whether a text's brackets match: taken away pair by pair, where
// nothing is between, none is left.
func balanced(s string) bool {
	s = strings.Map(func(r rune) rune {
		if strings.ContainsRune("(){}", r) {
			return r
		}
		return -1
	}, s)
	for {
		less := strings.ReplaceAll(strings.ReplaceAll(s, "()", ""), "{}", "")
		if less == s {
			return s == ""
		}
		s = less
	}
}

// modelPairs are partners in the short form, if its brackets match: of one that
// opens the nearest one with which all between matches.
func modelPairs(s string) []int {
	runes := []rune(s)
	list := make([]int, len(runes))
	for i := range list {
		list[i] = -1
	}
	for i, r := range runes {
		if r != '(' && r != '{' {
			continue
		}
		for j := i + 1; ; j++ {
			if balanced(string(runes[i : j+1])) {
				list[i], list[j] = j, i
				break
			}
		}
	}
	return list
}

// modelDepths is how deep tokens are: brackets ahead that open, and whose
// partner is not ahead.
func modelDepths(pairs []int) []int {
	list := make([]int, len(pairs))
	for i, p := range pairs {
		ahead := i
		if p >= 0 && p < i {
			ahead = p
		}
		for _, q := range pairs[:ahead] {
			if q >= ahead && q != i {
				list[i]++
			}
		}
	}
	return list
}

// modelError is what is wrong with the short form.
func modelError(s string) api.Errno {
	if !balanced(s) {
		return api.ErrGroup
	}
	pairs := modelPairs(s)
	for i, d := range modelDepths(pairs) {
		if pairs[i] > i && d >= 20 {
			return api.ErrDeep
		}
	}
	return api.OK
}

// join are parts in one list, with a sign between two.
func join(parts [][]api.Token, glyph string) []api.Token {
	var list []api.Token
	for i, p := range parts {
		if i > 0 {
			list = append(list, of(glyph)...)
		}
		list = append(list, p...)
	}
	return list
}

// check holds all that is told of a short form's tokens against the model.
func check(t *testing.T, s string) {
	t.Helper()
	if e := modelError(s); e != api.OK {
		refused(t, of(s), e)
		return
	}
	l, pairs := of(s), modelPairs(s)
	depths := modelDepths(pairs)
	if got, e := group.Match(l); !slices.Equal(got, pairs) || e != api.OK {
		t.Fatalf("Match of %s: %v, %d, not %v", s, got, e, pairs)
	}
	if got, e := group.Deep(l); !slices.Equal(got, depths) || e != api.OK {
		t.Fatalf("Deep of %s: %v, %d, not %v", s, got, e, depths)
	}
	for at := -2; at < len(l)+2; at++ {
		checkInside(t, s, pairs, at)
	}
	for _, glyph := range []string{"⋄", ":", "←", "(", ")", "{", "}", "", "a", "+"} {
		checkSplit(t, s, depths, glyph)
	}
}

// checkInside holds what Inside tells of one place against the pairs.
func checkInside(t *testing.T, s string, pairs []int, at int) {
	t.Helper()
	l := of(s)
	got, e := group.Inside(l, at)
	if at < 0 || at >= len(l) || pairs[at] <= at {
		if len(got) != 0 || e != api.ErrGroup {
			t.Fatalf("Inside %d of %s: %v, %d", at, s, got, e)
		}
		return
	}
	if want := l[at+1 : pairs[at]]; !slices.Equal(got, want) || e != api.OK {
		t.Fatalf("Inside %d of %s: %v, %d, not %v", at, s, got, e, want)
	}
	// P6.3: what is inside of brackets matches, and its partners are those of
	// the whole.
	in, e := group.Match(got)
	for i, p := range in {
		if p >= 0 && pairs[at+1+i] != at+1+p || p < 0 && pairs[at+1+i] != p {
			t.Fatalf("Match of what is inside %d of %s: %v", at, s, in)
		}
	}
	if e != api.OK || len(in) != len(got) {
		t.Fatalf("Match of what is inside %d of %s: %v, %d", at, s, in, e)
	}
}

// checkSplit holds what Split tells against the depths: where it cuts, and that
// the parts with their signs are the whole (P6.3).
func checkSplit(t *testing.T, s string, depths []int, glyph string) {
	t.Helper()
	l := of(s)
	var want [][]api.Token
	var part []api.Token
	for i, x := range l {
		if x.Kind == api.TokSign && x.Glyph == glyph && depths[i] == 0 && !strings.Contains("(){}", glyph) {
			want = append(want, part)
			part = nil
			continue
		}
		part = append(part, x)
	}
	want = append(want, part)
	got, e := group.Split(l, glyph)
	if !slices.EqualFunc(got, want, slices.Equal[[]api.Token]) || e != api.OK {
		t.Fatalf("Split of %s by %q: %v, %d, not %v", s, glyph, got, e, want)
	}
	if whole := join(got, glyph); !slices.Equal(whole, l) {
		t.Fatalf("Split of %s by %q: joined, %v", s, glyph, whole)
	}
}

// refused sees to it that all calls but IsSign answer an error, and nothing
// beside it (R2).
func refused(t *testing.T, l []api.Token, want api.Errno) {
	t.Helper()
	if got, e := group.Match(l); len(got) != 0 || e != want {
		t.Fatalf("Match of %s: %v, %d, not %d", lex.Text(l), got, e, want)
	}
	if got, e := group.Deep(l); len(got) != 0 || e != want {
		t.Fatalf("Deep of %s: %v, %d, not %d", lex.Text(l), got, e, want)
	}
	for _, glyph := range []string{"⋄", "(", ""} {
		if got, e := group.Split(l, glyph); len(got) != 0 || e != want {
			t.Fatalf("Split of %s by %q: %v, %d, not %d", lex.Text(l), glyph, got, e, want)
		}
	}
	for _, at := range []int{0, 1, len(l) - 1, len(l), -1, math.MinInt, math.MaxInt} {
		if got, e := group.Inside(l, at); len(got) != 0 || e != want {
			t.Fatalf("Inside %d of %s: %v, %d, not %d", at, lex.Text(l), got, e, want)
		}
	}
}

// P6.1: the document's example, and others that are written out, of real lines.
func TestMatch(t *testing.T) {
	for s, want := range map[string][]int{
		"":                     {},
		"{(a)}":                {4, 3, -1, 1, 0},
		"a":                    {-1},
		"()":                   {1, 0},
		"(){}()":               {1, 0, 3, 2, 5, 4},
		"((a)(b))":             {7, 3, -1, 1, 6, -1, 4, 0},
		"f←{⍵=0:0⋄(⍵)×2}":      {-1, -1, 14, -1, -1, -1, -1, -1, -1, 11, -1, 9, -1, -1, 2},
		"('(')":                {2, -1, 0},
		"(1)⍝)":                {2, -1, 0, -1},
		"( {\t} )":             {6, -1, 4, -1, 2, -1, 0},
		"[(]":                  nil,
		"{`w`z`w}":             {4, -1, -1, -1, 0},
		"(⍺){a(b)c}\xff(\xe2)": {2, -1, 0, 9, -1, 7, -1, 5, -1, 3, -1, 13, -1, 11},
	} {
		l := lex.Line(s)
		if want == nil {
			refused(t, l, api.ErrGroup)
			continue
		}
		if got, e := group.Match(l); !slices.Equal(got, want) || e != api.OK {
			t.Errorf("Match of %s: %v, %d, not %v", s, got, e, want)
		}
	}
}

// P6.1: what doesn't match.
func TestNoMatch(t *testing.T) {
	for _, s := range []string{
		"(", ")", "{", "}", "(a", "a)", "a(", ")a", ")(", "}{", "(}", "{)", "({)}", "{(})", "(()", "())", "(){", "}()", "()}", "{()",
		"(a⋄{b)⋄c}", "((((((", "))))))", "()()(", ")()()", "(()))(", "{}}{",
	} {
		refused(t, of(s), api.ErrGroup)
	}
}

// nest is a text in n pairs of brackets.
func nest(n int, s string) string {
	return strings.Repeat("(", n) + s + strings.Repeat(")", n)
}

// P6.1: how deep a bracket that opens may be; what is no bracket may be deeper,
// and what doesn't match is told of first.
func TestTooDeep(t *testing.T) {
	for _, s := range []string{
		nest(19, ""), nest(20, ""), nest(20, "a"), nest(20, "a⋄b"), nest(20, "[]"), nest(19, "(){}(a)"), nest(19, "{}") + nest(20, "b"),
		strings.Repeat("{(", 10) + "x" + strings.Repeat(")}", 10), strings.Repeat("(){}", 50),
	} {
		check(t, s)
		if _, e := group.Match(of(s)); e != api.OK {
			t.Errorf("Match of %s: %d", s, e)
		}
	}
	for _, s := range []string{
		nest(21, ""), nest(21, "a"), nest(22, ""), nest(100, "x"), nest(20, "{}"), nest(20, "a{b}"), nest(20, "()()"), nest(20, "") + nest(21, ""),
		nest(21, "") + "()", strings.Repeat("{(", 10) + "()" + strings.Repeat(")}", 10), nest(1<<16, ""),
	} {
		refused(t, of(s), api.ErrDeep)
	}
	for _, s := range []string{
		strings.Repeat("(", 20), strings.Repeat("(", 21), strings.Repeat("{", 1000), nest(21, "") + ")", "(" + nest(21, ""), nest(21, "}"),
		nest(25, "{"), nest(21, "") + "(", "}" + nest(21, ""), strings.Repeat("(", 25) + strings.Repeat(")", 24), strings.Repeat("(", 1<<17),
	} {
		refused(t, of(s), api.ErrGroup)
	}
}

// P6.1: how deep tokens are, written out.
func TestDeep(t *testing.T) {
	for s, want := range map[string][]int{
		"":            {},
		"a⋄b":         {0, 0, 0},
		"{(a)}":       {0, 1, 2, 1, 0},
		"()()":        {0, 0, 0, 0},
		"a(b)c":       {0, 0, 1, 0, 0},
		"(a(b)c)d":    {0, 1, 1, 2, 1, 1, 0, 0},
		"a{b(c)d⋄}e":  {0, 0, 1, 1, 2, 1, 1, 1, 0, 0},
		"([a])":       {0, 1, 1, 1, 0},
		nest(3, ""):   {0, 1, 2, 2, 1, 0},
		nest(2, "()"): {0, 1, 2, 2, 1, 0},
	} {
		if got, e := group.Deep(of(s)); !slices.Equal(got, want) || e != api.OK {
			t.Errorf("Deep of %s: %v, %d, not %v", s, got, e, want)
		}
	}
	deepest, e := group.Deep(of(nest(20, "x")))
	if e != api.OK || deepest[19] != 19 || deepest[20] != 20 || deepest[21] != 19 {
		t.Errorf("Deep of 20 pairs: %v, %d", deepest, e)
	}
}

// P6.1: a sign is told by its kind and its glyph, whatever its bytes are.
func TestIsSign(t *testing.T) {
	glyphs := []string{"", "⋄", "(", ")", "{", "}", ":", "←", "a", "+", "`z", "⍝", "\xff", "(("}
	for kind := -1; kind < 14; kind++ {
		for _, g := range glyphs {
			for _, text := range []string{g, "", "⋄", "`z", "xyz"} {
				for _, asked := range glyphs {
					want := kind == 8 && g == asked
					if got := group.IsSign(api.Token{Kind: kind, Text: text, Glyph: g}, asked); got != want {
						t.Fatalf("IsSign of kind %d, %q, %q, by %q: %v", kind, text, g, asked, got)
					}
				}
			}
		}
	}
	for _, kind := range []int{math.MinInt, math.MaxInt, 8 + 1<<32} {
		if group.IsSign(api.Token{Kind: kind, Glyph: "⋄"}, "⋄") {
			t.Errorf("IsSign of kind %d", kind)
		}
	}
}

// P6.1: brackets are signs alone, whatever other tokens say; and are those,
// whatever their bytes are.
func TestBrackets(t *testing.T) {
	for kind := -1; kind < 14; kind++ {
		for _, g := range []string{"(", ")", "{", "}"} {
			if kind == 8 {
				continue
			}
			l := []api.Token{{Kind: kind, Text: g, Glyph: g}}
			if p, e := group.Match(l); !slices.Equal(p, []int{-1}) || e != api.OK {
				t.Errorf("Match of kind %d, %s: %v, %d", kind, g, p, e)
			}
		}
	}
	for _, g := range []string{"[", "]", "((", "()", "", " (", "⟨", "（", "⋄"} {
		l := []api.Token{{Kind: 8, Text: "(", Glyph: g}}
		if p, e := group.Match(l); !slices.Equal(p, []int{-1}) || e != api.OK {
			t.Errorf("Match of the sign %q: %v, %d", g, p, e)
		}
	}
	l := []api.Token{{Kind: 8, Text: "x", Glyph: "("}, {Kind: 8, Text: "}", Glyph: "{"}, {Kind: 8, Glyph: "}"}, {Kind: 8, Text: "(", Glyph: ")"}}
	if p, e := group.Match(l); !slices.Equal(p, []int{3, 2, 1, 0}) || e != api.OK {
		t.Errorf("Match of brackets with other bytes: %v, %d", p, e)
	}
}

// P6.2: parts, written out, of real lines.
func TestSplit(t *testing.T) {
	for _, x := range []struct {
		line, glyph string
		want        []string
	}{
		{"", "⋄", []string{""}},
		{"a", "⋄", []string{"a"}},
		{"⋄", "⋄", []string{"", ""}},
		{"⋄⋄", "⋄", []string{"", "", ""}},
		{"⋄a", "⋄", []string{"", "a"}},
		{"a⋄", "⋄", []string{"a", ""}},
		{"a⋄{b⋄c}⋄⋄d", "⋄", []string{"a", "{b⋄c}", "", "d"}},
		{"a`zb⋄c", "⋄", []string{"a", "b", "c"}},
		{"a⋄b", "`z", []string{"a⋄b"}},
		{"a⋄b:c←d", ":", []string{"a⋄b", "c←d"}},
		{"a⋄b:c←d", "←", []string{"a⋄b:c", "d"}},
		{"(a←1)+b←2", "←", []string{"(a←1)+b", "2"}},
		{"'⋄'⋄1⍝⋄", "⋄", []string{"'⋄'", "1⍝⋄"}},
		{" ⋄ ", "⋄", []string{" ", " "}},
		{"(a){b}", "(", []string{"(a){b}"}},
		{"(a){b}", ")", []string{"(a){b}"}},
		{"(a){b}", "{", []string{"(a){b}"}},
		{"(a){b}", "}", []string{"(a){b}"}},
		{"", "(", []string{""}},
		{"a+b", "+", []string{"a+b"}},
		{"a⋄b", "", []string{"a⋄b"}},
	} {
		parts, e := group.Split(lex.Line(x.line), x.glyph)
		var got []string
		for _, p := range parts {
			got = append(got, lex.Text(p))
		}
		if !slices.Equal(got, x.want) || e != api.OK {
			t.Errorf("Split of %s by %q: %q, %d, not %q", x.line, x.glyph, got, e, x.want)
		}
	}
	l := []api.Token{{Kind: 8, Text: "x"}, {Kind: 5, Text: "y"}, {Kind: 8}}
	if parts, e := group.Split(l, ""); len(parts) != 3 || !slices.Equal(parts[1], l[1:2]) || e != api.OK {
		t.Errorf("Split by signs without a glyph: %v, %d", parts, e)
	}
}

// P6.2: what is inside, written out, and places that are wrong.
func TestInside(t *testing.T) {
	l := of("a(b{c⋄}d)()")
	for at, want := range map[int]string{1: "b{c⋄}d", 3: "c⋄", 9: ""} {
		if got, e := group.Inside(l, at); lex.Text(got) != want || e != api.OK {
			t.Errorf("Inside %d: %v, %d, not %s", at, got, e, want)
		}
	}
	for _, at := range []int{0, 2, 4, 5, 6, 7, 8, 10, 11, 12, -1, -2, math.MinInt, math.MaxInt} {
		if got, e := group.Inside(l, at); len(got) != 0 || e != api.ErrGroup {
			t.Errorf("Inside %d: %v, %d", at, got, e)
		}
	}
	for _, at := range []int{0, 1, -1, math.MinInt, math.MaxInt} {
		if got, e := group.Inside(nil, at); len(got) != 0 || e != api.ErrGroup {
			t.Errorf("Inside %d of nothing: %v, %d", at, got, e)
		}
	}
}

// all calls do with each text of up to n of some runes.
func all(runes []string, n int, s string, do func(string)) {
	do(s)
	if n == 0 {
		return
	}
	for _, r := range runes {
		all(runes, n-1, s+r, do)
	}
}

// P6.1 to P6.3: all short lists.
func TestAllShort(t *testing.T) {
	all([]string{"(", ")", "{", "}", "⋄", "a", "["}, 4, "", func(s string) { check(t, s) })
	all([]string{"(", ")", "{", "}"}, 6, "", func(s string) { check(t, s) })
	all([]string{"(", ")", "⋄"}, 7, "", func(s string) { check(t, s) })
}

// dice are numbers that look like chance, and are the same in every run.
type dice struct{ state uint32 }

func (d *dice) roll(n int) int {
	d.state = d.state*1664525 + 1013904223
	return int(d.state>>8) % n
}

// grown is a list that matches, of up to n tokens more than it must have.
func (d *dice) grown(n, depth int) string {
	var out strings.Builder
	for range d.roll(n) {
		switch k := d.roll(6); {
		case k < 2 && depth > 0:
			out.WriteString("(" + d.grown(n, depth-1) + ")")
		case k == 2 && depth > 0:
			out.WriteString("{" + d.grown(n, depth-1) + "}")
		default:
			out.WriteString([]string{"a", "⋄", ":", "←", "]", "⋄"}[k])
		}
	}
	return out.String()
}

// P6.1 to P6.3: longer lists that match, and what they are with one bracket
// more, or one token less.
func TestLonger(t *testing.T) {
	d := &dice{7}
	for range 600 {
		s := d.grown(6, 4)
		check(t, s)
		r := []rune(s)
		at := d.roll(len(r) + 1)
		check(t, string(r[:at])+[]string{"(", ")", "{", "}"}[d.roll(4)]+string(r[at:]))
		if at < len(r) {
			check(t, string(r[:at])+string(r[at+1:]))
		}
	}
	for n := range 24 {
		check(t, nest(n, d.grown(6, 2)))
	}
}

// R5: lists that are long, and signs that are many.
func TestLong(t *testing.T) {
	const n = 1 << 18
	l := of(strings.Repeat("(a)⋄", n))
	p, e := group.Match(l)
	if len(p) != 4*n || p[4*n-2] != 4*n-4 || e != api.OK {
		t.Errorf("Match of %d tokens: %d, %d", len(l), len(p), e)
	}
	parts, e := group.Split(l, "⋄")
	if len(parts) != n+1 || len(parts[n]) != 0 || lex.Text(parts[n-1]) != "(a)" || e != api.OK {
		t.Errorf("Split of %d tokens: %d, %d", len(l), len(parts), e)
	}
}

// R3: nil and empty lists are one.
func TestEmpty(t *testing.T) {
	for _, l := range [][]api.Token{nil, {}, of("(")[:0]} {
		p, e := group.Match(l)
		d, f := group.Deep(l)
		s, g := group.Split(l, "⋄")
		if len(p) != 0 || len(d) != 0 || len(s) != 1 || len(s[0]) != 0 || e != api.OK || f != api.OK || g != api.OK {
			t.Errorf("of nothing: %v, %v, %v, %d, %d, %d", p, d, s, e, f, g)
		}
	}
}

// worn writes over a list, its spare room too.
func worn[T any](l []T, x T) {
	for i := range l[:cap(l)] {
		l[:cap(l)][i] = x
	}
}

// R3: what is handed in is not written into, nor its spare room.
func TestHandedIn(t *testing.T) {
	room := of("a⋄{b⋄(c)}⋄d())((")
	kept := slices.Clone(room)
	l := room[:11]
	for range 2 {
		group.Match(l)
		group.Deep(l)
		if parts, e := group.Split(l, "⋄"); len(parts) != 3 || e != api.OK {
			t.Fatalf("Split: %v, %d", parts, e)
		}
		if in, e := group.Inside(l, 2); len(in) != 5 || e != api.OK {
			t.Fatalf("Inside: %v, %d", in, e)
		}
		if !slices.Equal(room, kept) {
			t.Fatalf("what was handed in is %v", room)
		}
	}
}

// R3: answers are new memory: none shares any with another one, nor with what
// was handed in.
func TestNewMemory(t *testing.T) {
	l, junk := of("a⋄{b⋄(c)}⋄d"), api.Token{Kind: 77, Text: "junk"}
	kept := slices.Clone(l)
	wantPairs, _ := group.Match(l)
	wantDepths, _ := group.Deep(l)
	p, _ := group.Match(l)
	d, _ := group.Deep(l)
	in, _ := group.Inside(l, 2)
	parts, _ := group.Split(l, "⋄")
	more := append(parts[0], junk, junk, junk)
	worn(p, 99)
	worn(d, 99)
	worn(in, junk)
	if !slices.Equal(parts[1], kept[2:9]) || !slices.Equal(parts[2], kept[10:]) {
		t.Errorf("parts, behind an append to the first one, %v: %v", more, parts)
	}
	worn(parts[1], junk)
	if !slices.Equal(parts[0], kept[:1]) || !slices.Equal(parts[2], kept[10:]) {
		t.Errorf("parts, with the second one written over: %v", parts)
	}
	worn(parts[2], junk)
	if !slices.Equal(l, kept) || !slices.Equal(parts[0], kept[:1]) {
		t.Errorf("with answers written over: %v, %v", l, parts[0])
	}
	last, _ := group.Split(l, "⋄")
	worn(l, junk)
	if !slices.Equal(last[1], kept[2:9]) {
		t.Errorf("with what was handed in written over: %v", last)
	}
	if p, _ := group.Match(kept); !slices.Equal(p, wantPairs) {
		t.Errorf("Match, once more: %v", p)
	}
	if d, _ := group.Deep(kept); !slices.Equal(d, wantDepths) {
		t.Errorf("Deep, once more: %v", d)
	}
}

// R3: the bytes of answers are their own, too.
func TestNewBytes(t *testing.T) {
	text := strings.Repeat("long", 10)
	l := []api.Token{{Kind: 8, Text: "(", Glyph: "("}, {Kind: 5, Text: text, Glyph: text}, {Kind: 8, Text: ")", Glyph: ")"}}
	in, _ := group.Inside(l, 0)
	parts, _ := group.Split(l, "⋄")
	for _, x := range []api.Token{in[0], parts[0][1]} {
		if x != l[1] || unsafe.StringData(x.Text) == unsafe.StringData(text) || unsafe.StringData(x.Glyph) == unsafe.StringData(text) {
			t.Errorf("%v shares bytes with what was handed in", x)
		}
	}
}
