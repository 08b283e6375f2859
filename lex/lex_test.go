package lex_test

import (
	"regexp"
	"slices"
	"strconv"
	"strings"
	"testing"

	"diaeresis/api"
	"diaeresis/lex"
)

// marks are the glyphs that are tokens by themselves, by their kinds, and, below
// them, the letters of their digraphs (a blank where there is none).
var marks = []struct {
	kind            int
	glyphs, letters string
}{
	{api.TokFn, "+-×÷⌈⌊|=≠<>≤≥∧∨~⍴⍳,⌽↑↓≢", "  xdun  q  lgao ri tkjm"},
	{api.TokOp, "/\\¨⍨", "  ec"},
	{api.TokSign, "←⋄:{}()", "sz     "},
	{api.TokArg, "⍺⍵", "pw"},
}

// spellings are the tokens of each of them alone, as a glyph and as a digraph.
func spellings() []api.Token {
	var list []api.Token
	for _, m := range marks {
		letters := m.letters
		for _, r := range m.glyphs {
			list = append(list, api.Token{Kind: m.kind, Text: string(r), Glyph: string(r)})
			if letters[0] != ' ' {
				list = append(list, api.Token{Kind: m.kind, Text: "`" + letters[:1], Glyph: string(r)})
			}
			letters = letters[1:]
		}
	}
	return list
}

// The rules of the model, each at the beginning of what is left.
var (
	blanks    = regexp.MustCompile("^[ \t]+")
	remark    = regexp.MustCompile("^(?s)(⍝|`b).*$")
	open      = regexp.MustCompile("^'([^']|'')*")
	number    = regexp.MustCompile("^(¯|`h)?(0*)([0-9]*)")
	name      = regexp.MustCompile("^[a-zA-Z_][a-zA-Z_0-9]*")
	anything  = regexp.MustCompile("^(?s).")
	markToken = spellings()
)

// model is the first token of a text that is not empty, told by patterns.
func model(s string) api.Token {
	if m := blanks.FindString(s); m != "" {
		return api.Token{Kind: api.TokBlank, Text: m}
	}
	if m := remark.FindString(s); m != "" {
		return api.Token{Kind: api.TokRemark, Text: s, Glyph: "⍝"}
	}
	if m := open.FindString(s); m != "" {
		if strings.HasPrefix(s[len(m):], "'") {
			return api.Token{Kind: api.TokText, Text: m + "'"}
		}
		return api.Token{Kind: api.TokOther, Text: s}
	}
	if m := number.FindStringSubmatch(s); m[0] != "" {
		return modelNumber(m[0], m[1] != "", m[2]+m[3])
	}
	if m := name.FindString(s); m != "" {
		if len(m) > 20 {
			return api.Token{Kind: api.TokOther, Text: m}
		}
		return api.Token{Kind: api.TokName, Text: m}
	}
	for _, x := range markToken {
		if strings.HasPrefix(s, x.Text) {
			return x
		}
	}
	return api.Token{Kind: api.TokOther, Text: anything.FindString(s)}
}

// modelNumber is the token of a minus, if there is one, and digits, told by
// their value.
func modelNumber(text string, minus bool, digits string) api.Token {
	v, err := strconv.ParseInt(digits, 10, 64)
	if len(digits) > 18 || err != nil {
		return api.Token{Kind: api.TokOther, Text: text}
	}
	x := api.Token{Kind: api.TokNumber, Text: text, Glyph: strconv.FormatInt(v, 10)}
	if minus && v != 0 {
		x.Glyph = "¯" + x.Glyph
	}
	return x
}

// check holds what is told of a text against the model, and against what follows
// (P4.3).
func check(t *testing.T, s string) {
	t.Helper()
	var want []api.Token
	for left := s; left != ""; left = left[len(want[len(want)-1].Text):] {
		want = append(want, model(left))
	}
	l := lex.Line(s)
	if !slices.Equal(l, want) {
		t.Fatalf("Line(%q): %v, not %v", s, l, want)
	}
	if got := lex.Text(l); got != s {
		t.Fatalf("Text of Line(%q): %q", s, got)
	}
	x, ok := lex.First(s)
	if s == "" {
		if ok || x != (api.Token{}) {
			t.Fatalf("First of nothing: %v, %v", x, ok)
		}
		return
	}
	if !ok || x != want[0] {
		t.Fatalf("First(%q): %v, %v, not %v", s, x, ok, want[0])
	}
	if behind := lex.Line(s[len(x.Text):]); !lex.Same(behind, l[1:]) {
		t.Fatalf("Line behind the first token of %q: %v", s, behind)
	}
	if got, want := lex.IsName(s), len(l) == 1 && x.Kind == api.TokName; got != want {
		t.Fatalf("IsName(%q): %v", s, got)
	}
	for _, x := range l {
		if x.Text == "" {
			t.Fatalf("Line(%q): an empty token", s)
		}
	}
}

// is holds the tokens of a text against those that are written out.
func is(t *testing.T, s string, want ...api.Token) {
	t.Helper()
	if l := lex.Line(s); !slices.Equal(l, want) {
		t.Errorf("Line(%q): %v, not %v", s, l, want)
	}
	check(t, s)
}

// one is a list of a token that has all of a text.
func one(t *testing.T, kind int, s, glyph string) {
	t.Helper()
	is(t, s, api.Token{Kind: kind, Text: s, Glyph: glyph})
}

// P4.1: the document's example, and a line with all kinds, as glyphs and as
// digraphs.
func TestExamples(t *testing.T) {
	is(t, "a←¯07 ⍝ x",
		api.Token{Kind: api.TokName, Text: "a"},
		api.Token{Kind: api.TokSign, Text: "←", Glyph: "←"},
		api.Token{Kind: api.TokNumber, Text: "¯07", Glyph: "¯7"},
		api.Token{Kind: api.TokBlank, Text: " "},
		api.Token{Kind: api.TokRemark, Text: "⍝ x", Glyph: "⍝"})
	is(t, "f`s{+/`w,'it''s'}`z`h07 \t?`b x",
		api.Token{Kind: api.TokName, Text: "f"},
		api.Token{Kind: api.TokSign, Text: "`s", Glyph: "←"},
		api.Token{Kind: api.TokSign, Text: "{", Glyph: "{"},
		api.Token{Kind: api.TokFn, Text: "+", Glyph: "+"},
		api.Token{Kind: api.TokOp, Text: "/", Glyph: "/"},
		api.Token{Kind: api.TokArg, Text: "`w", Glyph: "⍵"},
		api.Token{Kind: api.TokFn, Text: ",", Glyph: ","},
		api.Token{Kind: api.TokText, Text: "'it''s'"},
		api.Token{Kind: api.TokSign, Text: "}", Glyph: "}"},
		api.Token{Kind: api.TokSign, Text: "`z", Glyph: "⋄"},
		api.Token{Kind: api.TokNumber, Text: "`h07", Glyph: "¯7"},
		api.Token{Kind: api.TokBlank, Text: " \t"},
		api.Token{Kind: api.TokOther, Text: "?"},
		api.Token{Kind: api.TokRemark, Text: "`b x", Glyph: "⍝"})
}

// P4.1: a line without bytes has no tokens, and no first one.
func TestNothing(t *testing.T) {
	if l := lex.Line(""); len(l) != 0 {
		t.Errorf("Line: %v", l)
	}
	if x, ok := lex.First(""); ok || x != (api.Token{}) {
		t.Errorf("First: %v, %v", x, ok)
	}
}

// P4.1: rule 1, and blanks that are none.
func TestBlanks(t *testing.T) {
	for _, s := range []string{" ", "\t", "  ", "\t ", " \t\t  \t", strings.Repeat(" ", 5000)} {
		one(t, api.TokBlank, s, "")
	}
	for _, s := range []string{"\r", "\v", "\f", "\x00", "\u00a0", "\u2003", "\u3000", "\ufeff"} {
		one(t, api.TokOther, s, "")
		is(t, " "+s+" ", api.Token{Kind: api.TokBlank, Text: " "}, api.Token{Kind: api.TokOther, Text: s}, api.Token{Kind: api.TokBlank, Text: " "})
	}
}

// P4.1: rule 2: a remark has all that follows, whatever it is.
func TestRemarks(t *testing.T) {
	for _, body := range []string{"", " ", "x", "'", "'a'", "⍝", "`b", "a\nb", "\n", "\xff", "⋄1", " tail \t"} {
		one(t, api.TokRemark, "⍝"+body, "⍝")
		one(t, api.TokRemark, "`b"+body, "⍝")
		is(t, "1⍝"+body, api.Token{Kind: api.TokNumber, Text: "1", Glyph: "1"}, api.Token{Kind: api.TokRemark, Text: "⍝" + body, Glyph: "⍝"})
	}
	one(t, api.TokText, "'⍝'", "")
	one(t, api.TokText, "'`b'", "")
	is(t, "`B", api.Token{Kind: api.TokOther, Text: "`"}, api.Token{Kind: api.TokName, Text: "B"})
}

// P4.1: rule 3: a text ends at the first quote that is not two.
func TestTexts(t *testing.T) {
	for _, s := range []string{"''", "'a'", "' '", "''''", "''''''", "'a''b'", "'''a'", "'a'''", "'\n'", "'\xff\xfe'", "'⍝ ⋄ `b'", "'é😀'", "'" + strings.Repeat("x", 5000) + "'"} {
		one(t, api.TokText, s, "")
		is(t, s+"x", api.Token{Kind: api.TokText, Text: s}, api.Token{Kind: api.TokName, Text: "x"})
		is(t, s+" "+s, api.Token{Kind: api.TokText, Text: s}, api.Token{Kind: api.TokBlank, Text: " "}, api.Token{Kind: api.TokText, Text: s})
	}
	for _, s := range []string{"'", "'''", "'''''", "'a", "'a''", "'a''b", "'''a", "'a ⍝ b", "'\n", "'a\nb", "'\xff", "'a''b''c ⋄ 1"} {
		one(t, api.TokOther, s, "")
		is(t, "1"+s, api.Token{Kind: api.TokNumber, Text: "1", Glyph: "1"}, api.Token{Kind: api.TokOther, Text: s})
	}
	is(t, "'a'b'c", api.Token{Kind: api.TokText, Text: "'a'"}, api.Token{Kind: api.TokName, Text: "b"}, api.Token{Kind: api.TokOther, Text: "'c"})
}

// P4.1: rule 4: what numbers' glyphs are.
func TestNumbers(t *testing.T) {
	for digits, value := range map[string]string{
		"0": "0", "1": "1", "9": "9", "10": "10", "100": "100", "00": "0", "000": "0", "07": "7", "007": "7", "0070": "70", "1001": "1001",
		"123456789012345678": "123456789012345678",
		"999999999999999999": "999999999999999999",
		"000000000000000000": "0",
		"000000000000000001": "1",
	} {
		below := "¯" + value
		if value == "0" {
			below = "0"
		}
		one(t, api.TokNumber, digits, value)
		one(t, api.TokNumber, "¯"+digits, below)
		one(t, api.TokNumber, "`h"+digits, below)
	}
}

// P4.1: rule 4: digits that are too many are all one token, with their minus.
func TestManyDigits(t *testing.T) {
	for _, digits := range []string{"1234567890123456789", "0000000000000000001", "0000000000000000000", "9223372036854775807", "9223372036854775808", strings.Repeat("9", 5000)} {
		for _, minus := range []string{"", "¯", "`h"} {
			one(t, api.TokOther, minus+digits, "")
			is(t, minus+digits+" 1x",
				api.Token{Kind: api.TokOther, Text: minus + digits},
				api.Token{Kind: api.TokBlank, Text: " "},
				api.Token{Kind: api.TokNumber, Text: "1", Glyph: "1"},
				api.Token{Kind: api.TokName, Text: "x"})
		}
	}
}

// P4.1: rule 4: a minus without a digit stands alone, and what is no digit ends
// a number.
func TestMinusAlone(t *testing.T) {
	for _, minus := range []string{"¯", "`h"} {
		alone := api.Token{Kind: api.TokOther, Text: minus}
		is(t, minus, alone)
		is(t, minus+minus, alone, alone)
		is(t, minus+minus+"5", alone, api.Token{Kind: api.TokNumber, Text: minus + "5", Glyph: "¯5"})
		is(t, minus+"a", alone, api.Token{Kind: api.TokName, Text: "a"})
		is(t, minus+" 5", alone, api.Token{Kind: api.TokBlank, Text: " "}, api.Token{Kind: api.TokNumber, Text: "5", Glyph: "5"})
		is(t, minus+"\n", alone, api.Token{Kind: api.TokOther, Text: "\n"})
		is(t, minus+"\xff", alone, api.Token{Kind: api.TokOther, Text: "\xff"})
		is(t, minus+"⍝", alone, api.Token{Kind: api.TokRemark, Text: "⍝", Glyph: "⍝"})
		is(t, "1"+minus+"2", api.Token{Kind: api.TokNumber, Text: "1", Glyph: "1"}, api.Token{Kind: api.TokNumber, Text: minus + "2", Glyph: "¯2"})
	}
	is(t, "-5", api.Token{Kind: api.TokFn, Text: "-", Glyph: "-"}, api.Token{Kind: api.TokNumber, Text: "5", Glyph: "5"})
	is(t, "1.5", api.Token{Kind: api.TokNumber, Text: "1", Glyph: "1"}, api.Token{Kind: api.TokOther, Text: "."}, api.Token{Kind: api.TokNumber, Text: "5", Glyph: "5"})
	is(t, "`5", api.Token{Kind: api.TokOther, Text: "`"}, api.Token{Kind: api.TokNumber, Text: "5", Glyph: "5"})
	is(t, "٣", api.Token{Kind: api.TokOther, Text: "٣"})
}

// P4.1, P4.2: rule 5: names, and what is longer.
func TestNames(t *testing.T) {
	for _, s := range []string{"a", "z", "A", "Z", "_", "__", "_1", "a1", "Z9z", "aB_09", "abcdefghijklmnopqrst", "a1234567890123456789", strings.Repeat("_", 20)} {
		one(t, api.TokName, s, "")
		if !lex.IsName(s) {
			t.Errorf("IsName(%q) is false", s)
		}
		is(t, s+"+", api.Token{Kind: api.TokName, Text: s}, api.Token{Kind: api.TokFn, Text: "+", Glyph: "+"})
		is(t, "1"+s, api.Token{Kind: api.TokNumber, Text: "1", Glyph: "1"}, api.Token{Kind: api.TokName, Text: s})
	}
	for _, s := range []string{"abcdefghijklmnopqrstu", "a12345678901234567890", strings.Repeat("_", 21), strings.Repeat("x", 5000)} {
		one(t, api.TokOther, s, "")
		is(t, s+" a", api.Token{Kind: api.TokOther, Text: s}, api.Token{Kind: api.TokBlank, Text: " "}, api.Token{Kind: api.TokName, Text: "a"})
	}
}

// P4.2: what is no name.
func TestNoNames(t *testing.T) {
	for _, s := range []string{"", " ", "1", "1a", "a b", " a", "a ", "a\n", "\na", "a`", "`a", "`r", "+", "é", "aé", "a\xff", "\xffa", "a\x00", "@", "[", "`", "{", "/", ":", "a-b", "a.b", "'a'", "⍺", "¯1", "ａ", "abcdefghijklmnopqrstu", strings.Repeat("a", 1<<20)} {
		if lex.IsName(s) {
			t.Errorf("IsName(%q)", s)
		}
	}
	for c := range 256 {
		s := string([]byte{byte(c)})
		letter := strings.Contains("abcdefghijklmnopqrstuvwxyzABCDEFGHIJKLMNOPQRSTUVWXYZ_", s)
		digit := strings.Contains("0123456789", s)
		if lex.IsName(s) != letter || lex.IsName("a"+s) != (letter || digit) {
			t.Errorf("IsName of byte %x, of a and it: %v, %v", c, lex.IsName(s), lex.IsName("a"+s))
		}
		check(t, s)
		check(t, "a"+s)
		check(t, s+"a")
		check(t, "`"+s)
		check(t, "1"+s+"2")
	}
}

// P4.1: rule 6: each glyph and each digraph, whatever is beside it.
func TestMarks(t *testing.T) {
	if n := len(spellings()); n != 36+21 {
		t.Fatalf("the test's table has %d spellings", n)
	}
	for _, x := range spellings() {
		is(t, x.Text, x)
		is(t, x.Text+x.Text, x, x)
		is(t, x.Text+"7", x, api.Token{Kind: api.TokNumber, Text: "7", Glyph: "7"})
		is(t, "a"+x.Text+"b", api.Token{Kind: api.TokName, Text: "a"}, x, api.Token{Kind: api.TokName, Text: "b"})
		is(t, "`"+x.Text, api.Token{Kind: api.TokOther, Text: "`"}, x)
		is(t, x.Text+"\xff", x, api.Token{Kind: api.TokOther, Text: "\xff"})
		check(t, x.Text[1:])
		check(t, x.Text[:len(x.Text)-1])
		check(t, x.Text[1:]+x.Text)
	}
}

// P4.1: rule 7: runes that are nothing else, of one byte to four.
func TestOthers(t *testing.T) {
	for _, s := range []string{"!", "\"", "#", "$", "%", "&", "*", ".", ";", "?", "@", "[", "]", "^", "`", "\x00", "\x7f", "\u0080", "é", "\u07ff", "\u0800", "→", "⎕", "⍬", "◊", "∘", "−", "\ud7ff", "\ue000", "\ufffd", "\uffff", "\U00010000", "😀", "\U0010ffff"} {
		one(t, api.TokOther, s, "")
		is(t, s+s, api.Token{Kind: api.TokOther, Text: s}, api.Token{Kind: api.TokOther, Text: s})
		is(t, "a"+s+"1", api.Token{Kind: api.TokName, Text: "a"}, api.Token{Kind: api.TokOther, Text: s}, api.Token{Kind: api.TokNumber, Text: "1", Glyph: "1"})
	}
}

// P4.1: rule 7: bytes that are no runes are tokens one by one.
func TestNoRunes(t *testing.T) {
	for _, s := range []string{
		"\x80", "\xbf", "\xff", "\xfe\xff", // never a rune's beginning
		"\xc3", "\xe2\x8d", "\xe2", "\xf0\x9f\x98", "\xf0\x9f", // cut short
		"\xc0\x80", "\xc1\xbf", "\xc0\xab", "\xe0\x80\xab", "\xe0\x9f\xbf", "\xf0\x8f\xbf\xbf", // not the shortest form
		"\xed\xa0\x80", "\xed\xbf\xbf", // surrogates
		"\xf4\x90\x80\x80", "\xf5\x80\x80\x80", "\xf8\x88\x80\x80\x80", // past 10ffff
	} {
		var want []api.Token
		for i := range len(s) {
			want = append(want, api.Token{Kind: api.TokOther, Text: s[i : i+1]})
		}
		is(t, s, want...)
		is(t, s+"é", append(want, api.Token{Kind: api.TokOther, Text: "é"})...)
		is(t, s+"a", append(want, api.Token{Kind: api.TokName, Text: "a"})...)
	}
	is(t, "⍴\x8d⍴", api.Token{Kind: api.TokFn, Text: "⍴", Glyph: "⍴"}, api.Token{Kind: api.TokOther, Text: "\x8d"}, api.Token{Kind: api.TokFn, Text: "⍴", Glyph: "⍴"})
}

// P4.1: a line end is a token of its own, unless a rule that takes all has it.
func TestLineEnds(t *testing.T) {
	end := api.Token{Kind: api.TokOther, Text: "\n"}
	is(t, "\n", end)
	is(t, "\n\n", end, end)
	is(t, " \n\t", api.Token{Kind: api.TokBlank, Text: " "}, end, api.Token{Kind: api.TokBlank, Text: "\t"})
	is(t, "a\nb", api.Token{Kind: api.TokName, Text: "a"}, end, api.Token{Kind: api.TokName, Text: "b"})
	is(t, "1\n2", api.Token{Kind: api.TokNumber, Text: "1", Glyph: "1"}, end, api.Token{Kind: api.TokNumber, Text: "2", Glyph: "2"})
	is(t, "`\nr", api.Token{Kind: api.TokOther, Text: "`"}, end, api.Token{Kind: api.TokName, Text: "r"})
	is(t, "\n⍝\na", end, api.Token{Kind: api.TokRemark, Text: "⍝\na", Glyph: "⍝"})
	is(t, "'\n'\n'\na", api.Token{Kind: api.TokText, Text: "'\n'"}, end, api.Token{Kind: api.TokOther, Text: "'\na"})
}

// parts are what the model's lines are made of.
func parts() []string {
	list := []string{" ", "\t", "\n", "'", "'", "''", "⍝", "`b", "¯", "`h", "`", "0", "7", "00", "123456789012345678", "a", "_", "Z", "abcdefghijklmnopqrst", "h", "b", "r", "é", "😀", "\xff", "\xe2", "\x8d", "\xb4", "\xc2", "\xaf", "?", "."}
	for _, x := range spellings() {
		list = append(list, x.Text)
	}
	return list
}

// P4.1 to P4.3: all lines of two parts, and all of up to five of few parts.
func TestShortLines(t *testing.T) {
	for _, a := range parts() {
		for _, b := range parts() {
			check(t, a+b)
		}
	}
	lines := []string{""}
	for range 5 {
		var longer []string
		for _, s := range lines {
			for _, p := range []string{"'", "`", "h", "0", "12345678901234567", "¯", "a", " ", "\x8d"} {
				longer = append(longer, s+p)
				check(t, s+p)
			}
		}
		lines = longer
	}
}

// P4.1 to P4.3: lines of any parts.
func TestAnyLines(t *testing.T) {
	state := uint32(4)
	below := func(n int) int {
		state = state*1664525 + 1013904223
		return int(state>>8) % n
	}
	list := parts()
	for range 5000 {
		var s strings.Builder
		for range below(30) {
			if p := list[below(len(list))]; p != "⍝" && p != "`b" && p != "'" || below(10) == 0 {
				s.WriteString(p)
			}
		}
		check(t, s.String())
	}
}

// P4.1: long lines.
func TestLong(t *testing.T) {
	const many = 20000
	for _, s := range []string{"+", "`r", "'a' ", "'' ", "a ", "¯", "\n", "\xff", "⍵", "12 "} {
		l := lex.Line(strings.Repeat(s, many))
		if lex.Text(l) != strings.Repeat(s, many) || len(l) < many {
			t.Errorf("Line of %d times %q: %d tokens", many, s, len(l))
		}
	}
}

// P4.1: what tokens say, whatever they are.
func TestText(t *testing.T) {
	for _, x := range []struct {
		l    []api.Token
		want string
	}{
		{nil, ""},
		{[]api.Token{}, ""},
		{[]api.Token{{}}, ""},
		{[]api.Token{{Kind: api.TokName, Text: "a"}}, "a"},
		{[]api.Token{{Kind: 77, Text: "b", Glyph: "x"}, {}, {Kind: -1, Text: "a"}, {Glyph: "y"}}, "ba"},
		{[]api.Token{{Kind: api.TokEnd, Text: "\n"}, {Text: "\xff"}, {Text: "⍴"}}, "\n\xff⍴"},
	} {
		if got := lex.Text(x.l); got != x.want {
			t.Errorf("Text(%v): %q, not %q", x.l, got, x.want)
		}
	}
}

// P4.1: lists are the same only if they have all fields of all tokens in common.
func TestSame(t *testing.T) {
	a, b := api.Token{Kind: 1, Text: "a", Glyph: "g"}, api.Token{Kind: 2, Text: "b", Glyph: "h"}
	lists := [][]api.Token{
		{}, {{}}, {{}, {}}, {a}, {b}, {a, b}, {b, a}, {a, a}, {a, b, a},
		{{Kind: 2, Text: "a", Glyph: "g"}}, {{Kind: 1, Text: "b", Glyph: "g"}}, {{Kind: 1, Text: "a", Glyph: "h"}},
		{a, {Kind: 2, Text: "b"}}, {a, {Kind: 2, Glyph: "h"}}, {a, {Text: "b", Glyph: "h"}},
	}
	for i, x := range lists {
		for j, y := range lists {
			if got := lex.Same(x, y); got != (i == j) {
				t.Errorf("Same(%v, %v): %v", x, y, got)
			}
		}
		if !lex.Same(x, slices.Clone(x)) {
			t.Errorf("Same of %v and a copy of it: false", x)
		}
	}
	if !lex.Same(nil, nil) || !lex.Same(nil, []api.Token{}) || !lex.Same([]api.Token{}, nil) || lex.Same(nil, []api.Token{{}}) {
		t.Errorf("Same of nil")
	}
	if lex.Same(lex.Line("a←1"), lex.Line("a`s1")) || !lex.Same(lex.Line("a`s1"), lex.Line("a`s1")) {
		t.Errorf("Same of lines")
	}
}

// P4.2: tokens without blanks and remarks, in order, whatever the list is.
func TestPlain(t *testing.T) {
	a, b := api.Token{Kind: api.TokName, Text: "a"}, api.Token{Kind: api.TokNumber, Text: "07", Glyph: "7"}
	blank, rem := api.Token{Kind: api.TokBlank, Text: " "}, api.Token{Kind: api.TokRemark, Text: "⍝", Glyph: "⍝"}
	odd := api.Token{Kind: 77, Text: " ", Glyph: "⍝"}
	for _, x := range []struct{ l, want []api.Token }{
		{nil, nil},
		{[]api.Token{}, nil},
		{[]api.Token{blank}, nil},
		{[]api.Token{rem, blank, rem, blank}, nil},
		{[]api.Token{a}, []api.Token{a}},
		{[]api.Token{rem, b, blank, a, rem, a, blank}, []api.Token{b, a, a}},
		{[]api.Token{odd, {}, blank, odd}, []api.Token{odd, {}, odd}},
		{[]api.Token{{Kind: api.TokBlank, Text: "x"}, {Kind: api.TokRemark, Text: "y"}}, nil},
	} {
		if got := lex.Plain(x.l); !slices.Equal(got, x.want) {
			t.Errorf("Plain(%v): %v, not %v", x.l, got, x.want)
		}
	}
	if got := lex.Text(lex.Plain(lex.Line(" a ←\t'x y' +1⍝ b"))); got != "a←'x y'+1" {
		t.Errorf("Plain of a line: %q", got)
	}
	for kind := api.TokNumber; kind <= api.TokEnd; kind++ {
		x := api.Token{Kind: kind, Text: "x", Glyph: "g"}
		if got := lex.Plain([]api.Token{x}); !slices.Equal(got, []api.Token{x}) {
			t.Errorf("Plain of kind %d: %v", kind, got)
		}
	}
}

// R3: what is handed in stays as it is, and what is answered shares nothing with
// it.
func TestNewMemory(t *testing.T) {
	in := lex.Line("a b")
	in = append(in, api.Token{Kind: api.TokName, Text: "spare"})
	was := slices.Clone(in)
	out := lex.Plain(in[:3])
	for i := range out[:cap(out)] {
		out[:cap(out)][i] = api.Token{Kind: 77}
	}
	lex.Text(in[:3])
	lex.Same(in[:3], in)
	if !slices.Equal(in, was) {
		t.Errorf("Plain changed what it was handed: %v", in)
	}
	one, two := lex.Line("a b"), lex.Line("a b")
	one[0] = api.Token{}
	_ = append(one, api.Token{Kind: 77})
	if !slices.Equal(two, was[:3]) || !slices.Equal(lex.Line("a b"), was[:3]) {
		t.Errorf("Line: %v, %v", two, lex.Line("a b"))
	}
}
