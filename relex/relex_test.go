package relex_test

import (
	"math"
	"slices"
	"strings"
	"testing"

	"diaeresis/api"
	"diaeresis/lex"
	"diaeresis/relex"
)

// model is what a lexer should keep: a text, and how many lines were lexed.
type model struct {
	text  string
	lexed int
}

// splice is what is put in the place of n bytes.
type splice struct {
	at, n int
	s     string
}

// change is what a splice changes, told by the line ends alone.
func (m model) change(x splice) api.Change {
	return api.Change{
		From: strings.Count(m.text[:x.at], "\n"),
		Old:  strings.Count(m.text[x.at:x.at+x.n], "\n") + 1,
		New:  strings.Count(x.s, "\n") + 1,
	}
}

// behind is the model behind a splice.
func (m model) behind(x splice) model {
	return model{m.text[:x.at] + x.s + m.text[x.at+x.n:], m.lexed + m.change(x).New}
}

// lines are the tokens of a text's lines.
func lines(s string) [][]api.Token {
	var list [][]api.Token
	for l := range strings.SplitSeq(s, "\n") {
		list = append(list, lex.Line(l))
	}
	return list
}

// whole are a text's tokens.
func whole(s string) []api.Token {
	var list []api.Token
	for i, l := range lines(s) {
		if i > 0 {
			list = append(list, api.Token{Kind: api.TokEnd, Text: "\n"})
		}
		list = append(list, l...)
	}
	return list
}

// of is a new lexer of a text, and its model.
func of(t *testing.T, s string) (*relex.Lexer, model) {
	t.Helper()
	x, e := relex.New(s)
	if e != api.OK || x == nil {
		t.Fatalf("New of %d bytes: %v, %d", len(s), x, e)
	}
	return x, model{s, strings.Count(s, "\n") + 1}
}

// check holds all that a lexer tells against the model.
func check(t *testing.T, x *relex.Lexer, m model) {
	t.Helper()
	if got := x.Text(); got != m.text {
		t.Fatalf("Text: %q, not %q", got, m.text)
	}
	l := x.Tokens()
	if want := whole(m.text); !slices.Equal(l, want) {
		t.Fatalf("Tokens of %q: %v, not %v", m.text, l, want)
	}
	if got := lex.Text(l); got != m.text {
		t.Fatalf("Text of Tokens: %q, not %q", got, m.text)
	}
	want := lines(m.text)
	if got := x.Lines(); got != len(want) {
		t.Fatalf("Lines of %q: %d, not %d", m.text, got, len(want))
	}
	for i, w := range want {
		if got := x.Line(i); !slices.Equal(got, w) {
			t.Fatalf("Line %d of %q: %v, not %v", i, m.text, got, w)
		}
	}
	for _, i := range []int{-1, len(want), len(want) + 1, math.MinInt, math.MaxInt} {
		if got := x.Line(i); len(got) != 0 {
			t.Fatalf("Line %d of %q: %v", i, m.text, got)
		}
	}
	if got := x.Lexed(); got != m.lexed {
		t.Fatalf("Lexed: %d, not %d", got, m.lexed)
	}
}

// do makes a splice that has nothing wrong, and checks what comes of it.
func do(t *testing.T, x *relex.Lexer, m model, s splice) model {
	t.Helper()
	c, e := x.Splice(s.at, s.n, s.s)
	if want := m.change(s); c != want || e != api.OK {
		t.Fatalf("Splice %v of %q: %v, %d, not %v", s, m.text, c, e, want)
	}
	m = m.behind(s)
	check(t, x, m)
	return m
}

// P5.1: what New takes, and what it refuses.
func TestNew(t *testing.T) {
	for _, s := range []string{
		"", "a", "\n", "a\n", "\na", "\n\n", "a\n\nb", "a←1\nb←a+2\nb", "'a\nb'\n⍝ c\n1", " \n\t\n", "\r\n", "\x85\n\u2028\n\v",
		"\xff\n\xe2\x86\n\x90", "⍝\n`b\n`",
		strings.Repeat("x", 4000), strings.Repeat("\n", 4000), strings.Repeat("x\n", 2000), strings.Repeat("⍴", 1333) + "x",
	} {
		x, m := of(t, s)
		check(t, x, m)
	}
	for _, s := range []string{strings.Repeat("x", 4001), strings.Repeat("\n", 4001), strings.Repeat("⍴", 1334), strings.Repeat("x\n", 1<<19)} {
		if x, e := relex.New(s); x != nil || e != api.ErrFull {
			t.Errorf("New of %d bytes: %v, %d, not ErrFull", len(s), x, e)
		}
	}
}

// P5.1: the tokens of a text that is written out: a line end is a token of its
// own, without a glyph, between two lines, whatever stands in those.
func TestTokens(t *testing.T) {
	end := api.Token{Kind: api.TokEnd, Text: "\n"}
	x, _ := of(t, "\na'b\n⍝ \n\n")
	want := []api.Token{
		end,
		{Kind: api.TokName, Text: "a"}, {Kind: api.TokOther, Text: "'b"},
		end,
		{Kind: api.TokRemark, Text: "⍝ ", Glyph: "⍝"},
		end,
		end,
	}
	if l := x.Tokens(); !slices.Equal(l, want) {
		t.Errorf("Tokens: %v, not %v", l, want)
	}
	if l := x.Line(1); !slices.Equal(l, want[1:3]) {
		t.Errorf("Line 1: %v", l)
	}
	if x.Lines() != 5 || x.Lexed() != 5 {
		t.Errorf("%d lines, %d lexed", x.Lines(), x.Lexed())
	}
}

// P5.1: a nil lexer, at numbers and texts that are right or not.
func TestNil(t *testing.T) {
	var x *relex.Lexer
	for _, at := range []int{0, 1, -1, math.MinInt, math.MaxInt} {
		for _, n := range []int{0, 1, -1, math.MinInt, math.MaxInt} {
			for _, s := range []string{"", "x", "\n", strings.Repeat("x", 4001)} {
				if c, e := x.Splice(at, n, s); c != (api.Change{}) || e != api.ErrNil {
					t.Errorf("Splice %d, %d, of nil: %v, %d", at, n, c, e)
				}
			}
		}
		if l := x.Line(at); len(l) != 0 {
			t.Errorf("Line %d of nil: %v", at, l)
		}
	}
	if len(x.Tokens()) != 0 || x.Lines() != 0 || x.Text() != "" || x.Lexed() != 0 {
		t.Errorf("nil: %v, %d, %q, %d", x.Tokens(), x.Lines(), x.Text(), x.Lexed())
	}
}

// R1: a lexer that no call gave panics at none.
func TestNoCallGave(t *testing.T) {
	for _, s := range []splice{{0, 0, ""}, {0, 0, "a\n"}, {-1, 1, ""}, {0, 1, "x"}} {
		x := &relex.Lexer{}
		x.Splice(s.at, s.n, s.s)
		x.Tokens()
		x.Line(0)
		x.Text()
		x.Lines()
		x.Lexed()
	}
}

// P5.2: splices that are written out: in one line, over line ends, at the text's
// beginning and end.
func TestExamples(t *testing.T) {
	for _, y := range []struct {
		s    string
		x    splice
		want api.Change
		text string
	}{
		{"abc\ndefg\nh", splice{5, 2, "\n"}, api.Change{From: 1, Old: 1, New: 2}, "abc\nd\ng\nh"},
		{"", splice{0, 0, ""}, api.Change{From: 0, Old: 1, New: 1}, ""},
		{"", splice{0, 0, "a\nb\n"}, api.Change{From: 0, Old: 1, New: 3}, "a\nb\n"},
		{"a\nb\n", splice{0, 4, ""}, api.Change{From: 0, Old: 3, New: 1}, ""},
		{"a\nb", splice{1, 0, "x"}, api.Change{From: 0, Old: 1, New: 1}, "ax\nb"},
		{"a\nb", splice{2, 0, "x"}, api.Change{From: 1, Old: 1, New: 1}, "a\nxb"},
		{"a\nb", splice{3, 0, "x"}, api.Change{From: 1, Old: 1, New: 1}, "a\nbx"},
		{"a\nb", splice{0, 0, "\n"}, api.Change{From: 0, Old: 1, New: 2}, "\na\nb"},
		{"a\nb", splice{3, 0, "\n"}, api.Change{From: 1, Old: 1, New: 2}, "a\nb\n"},
		{"a\nb", splice{0, 1, ""}, api.Change{From: 0, Old: 1, New: 1}, "\nb"},
		{"a\nb", splice{0, 2, ""}, api.Change{From: 0, Old: 2, New: 1}, "b"},
		{"a\nb", splice{1, 1, ""}, api.Change{From: 0, Old: 2, New: 1}, "ab"},
		{"a\nb", splice{1, 1, "\n"}, api.Change{From: 0, Old: 2, New: 2}, "a\nb"},
		{"a\nb", splice{2, 1, "\n"}, api.Change{From: 1, Old: 1, New: 2}, "a\n\n"},
		{"a\n\n\nb", splice{2, 1, ""}, api.Change{From: 1, Old: 2, New: 1}, "a\n\nb"},
		{"'a\nb'", splice{2, 1, " "}, api.Change{From: 0, Old: 2, New: 1}, "'a b'"},
		{"⍝ a\nb\nc", splice{5, 1, ""}, api.Change{From: 0, Old: 2, New: 1}, "⍝ ab\nc"},
		{"a\n⍴\nb", splice{3, 1, ""}, api.Change{From: 1, Old: 1, New: 1}, "a\n\xe2\xb4\nb"},
		{"a\n\xe2\xb4\nb", splice{3, 0, "\x8d"}, api.Change{From: 1, Old: 1, New: 1}, "a\n⍴\nb"},
		{"\xe2\n\x8d\xb4", splice{1, 1, ""}, api.Change{From: 0, Old: 2, New: 1}, "⍴"},
		{"⍴", splice{1, 1, "\n"}, api.Change{From: 0, Old: 1, New: 2}, "\xe2\n\xb4"},
	} {
		x, m := of(t, y.s)
		c, e := x.Splice(y.x.at, y.x.n, y.x.s)
		if c != y.want || e != api.OK {
			t.Errorf("Splice %v of %q: %v, %d, not %v", y.x, y.s, c, e, y.want)
		}
		check(t, x, model{y.text, m.lexed + y.want.New})
	}
}

// P5.2, P5.3: splices of all places and numbers.
func TestSpliceEverywhere(t *testing.T) {
	for _, text := range []string{"", "\n", "\n\n\n", "ab\ncd", "a\n\nbc\n", "\n'a\n'⍴\n\xff"} {
		for at := range len(text) + 1 {
			for n := range len(text) - at + 1 {
				for _, s := range []string{"", "x", "\n", "'", "x\n", "\ny", "x\n\n⍝y", "\xe2\n\x8d"} {
					x, m := of(t, text)
					do(t, x, m, splice{at, n, s})
				}
			}
		}
	}
}

// refused makes a splice that has something wrong, and checks that nothing came
// of it.
func refused(t *testing.T, x *relex.Lexer, m model, s splice, want api.Errno) {
	t.Helper()
	if c, e := x.Splice(s.at, s.n, s.s); c != (api.Change{}) || e != want {
		t.Errorf("Splice at %d, of %d, %d bytes: %v, %d, not %d", s.at, s.n, len(s.s), c, e, want)
	}
	check(t, x, m)
}

// P5.2: bytes that are not there are refused first, whatever is put in, and
// change nothing.
func TestRange(t *testing.T) {
	x, m := of(t, "ab\nc\nd")
	for _, y := range [][2]int{
		{-1, 0}, {-1, 1}, {-1, 8}, {-1, math.MaxInt}, {math.MinInt, 0}, {math.MinInt, math.MinInt}, {math.MinInt, math.MaxInt},
		{7, 0}, {7, -1}, {8, 0}, {math.MaxInt, 0}, {math.MaxInt, 1}, {math.MaxInt, math.MaxInt}, {math.MaxInt, math.MinInt},
		{0, -1}, {3, -1}, {6, -1}, {1, math.MinInt},
		{0, 7}, {3, 4}, {5, 2}, {6, 1}, {1, math.MaxInt}, {6, math.MaxInt},
	} {
		for _, s := range []string{"", "x", "\n", strings.Repeat("x", 4001)} {
			refused(t, x, m, splice{y[0], y[1], s}, api.ErrRange)
		}
	}
	for _, y := range [][2]int{{0, 0}, {6, 0}, {0, 6}, {3, 3}, {5, 1}} {
		x, m := of(t, "ab\nc\nd")
		do(t, x, m, splice{y[0], y[1], "\n"})
	}
}

// P5.2: a text that would be too long is refused, and changes nothing; one of
// just as many bytes as are allowed is not.
func TestLength(t *testing.T) {
	for at := range 7 {
		for n := range 7 - at {
			x, m := of(t, "ab\nc\nd")
			refused(t, x, m, splice{at, n, strings.Repeat("\n", 3995+n)}, api.ErrFull)
			refused(t, x, m, splice{at, n, strings.Repeat("x", 1<<20)}, api.ErrFull)
			do(t, x, m, splice{at, n, strings.Repeat("x", 3993+n) + "\n"})
		}
	}
}

// P5.2: a text that is full takes no byte more, but others in the place of some.
func TestFull(t *testing.T) {
	x, m := of(t, strings.Repeat("ab\n", 1333)+"c")
	for _, at := range []int{0, 1, 2000, 4000} {
		refused(t, x, m, splice{at, 0, "x"}, api.ErrFull)
	}
	m = do(t, x, m, splice{4000, 0, ""})
	m = do(t, x, m, splice{3999, 1, "\n"})
	m = do(t, x, m, splice{2, 1, "x"})
	m = do(t, x, m, splice{0, 4000, strings.Repeat("\n", 4000)})
	do(t, x, m, splice{0, 4000, ""})
}

// P5.1: each splice counts the lines that are put in, even where it changes no
// byte, or puts in what stood there.
func TestLexed(t *testing.T) {
	x, m := of(t, "a\nb\nc")
	for i, y := range []struct {
		splice
		lexed int
	}{
		{splice{0, 0, ""}, 4},
		{splice{2, 1, "b"}, 5},
		{splice{0, 5, "a\nb\nc"}, 8},
		{splice{0, 5, ""}, 9},
		{splice{0, 0, "\n\n\n"}, 13},
		{splice{0, 1, ""}, 14},
	} {
		m = do(t, x, m, y.splice)
		if x.Lexed() != y.lexed {
			t.Errorf("splice %d: %d lines lexed, not %d", i, x.Lexed(), y.lexed)
		}
	}
}

// bits are a poor man's numbers, the same in each run.
type bits uint64

// below is a number from 0 to n - 1.
func (b *bits) below(n int) int {
	*b = *b*6364136223846793005 + 1442695040888963407
	return int(*b>>33) % n
}

// words are what texts are made of here, line ends most of all.
var words = []string{"\n", "\n", "\n", "a", "b1", "'", "''", "⍝", "`", "b", "`b", "¯", "7", " ", "⍴", "←", "\xe2", "\x8d", "\xff", "😀", "\r", "\x00"}

// text is one of up to n words.
func (b *bits) text(n int) string {
	var s string
	for range b.below(n + 1) {
		s += words[b.below(len(words))]
	}
	return s
}

// P5.3: behind any splices the tokens are those of the text, and the lines ahead
// of FROM, and those behind, have the tokens that they had.
func TestManySplices(t *testing.T) {
	b := bits(5)
	for range 150 {
		x, m := of(t, b.text(30))
		for range 40 {
			was := lines(m.text)
			at := b.below(len(m.text) + 1)
			s := splice{at, b.below(len(m.text) - at + 1), b.text(6)}
			if b.below(2) == 0 {
				s.n = min(s.n, 2)
			}
			c := m.change(s)
			m = do(t, x, m, s)
			for i := range c.From {
				if !slices.Equal(x.Line(i), was[i]) {
					t.Fatalf("Splice %v: line %d, ahead: %v, not %v", s, i, x.Line(i), was[i])
				}
			}
			for i := c.From + c.Old; i < len(was); i++ {
				if got := x.Line(i + c.New - c.Old); !slices.Equal(got, was[i]) {
					t.Fatalf("Splice %v: line %d, behind: %v, not %v", s, i, got, was[i])
				}
			}
		}
	}
}

// spoil writes over a list, and over its spare room.
func spoil(l []api.Token) {
	l = l[:cap(l)]
	for i := range l {
		l[i] = api.Token{Kind: 77, Text: "spoilt"}
	}
}

// R3: what is answered is new memory: who writes into it changes nothing that is
// kept, nor another answer.
func TestNewMemory(t *testing.T) {
	x, m := of(t, "a←1\n\nb ⍝ c\n'd")
	kept := x.Tokens()
	for _, s := range []splice{{0, 0, ""}, {3, 0, "\n"}, {0, 1, "xy"}, {0, 2, ""}} {
		m = do(t, x, m, s)
		spoil(x.Tokens())
		for i := range x.Lines() {
			l, other := x.Line(i), x.Line(i)
			spoil(l)
			if !slices.Equal(other, lines(m.text)[i]) {
				t.Errorf("Line %d: two answers share memory", i)
			}
		}
		check(t, x, m)
	}
	if want := whole("a←1\n\nb ⍝ c\n'd"); !slices.Equal(kept, want) {
		t.Errorf("Tokens from before the splices: %v", kept)
	}
}

// R4: a lexer hangs on no other one.
func TestTwoLexers(t *testing.T) {
	x, m := of(t, "a\nb\nc")
	y, n := of(t, "a\nb\nc")
	for i := range 5 {
		m = do(t, x, m, splice{i, 0, "x\n"})
		check(t, y, n)
	}
	n = do(t, y, n, splice{1, 3, ""})
	check(t, x, m)
	check(t, y, n)
}
