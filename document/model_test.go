package document_test

import (
	"math"
	"slices"
	"strings"
	"testing"

	"diaeresis/api"
	"diaeresis/document"
	"diaeresis/lex"
	"diaeresis/parse"
)

// dice are numbers that look like chance, and are the same in every run.
type dice struct{ state uint32 }

func (d *dice) roll(n int) int {
	d.state = d.state*1664525 + 1013904223
	return int(d.state>>8) % n
}

// is tells whether a token is a sign.
func is(x api.Token, glyph string) bool { return x.Kind == 8 && x.Glyph == glyph }

// matching tells whether all brackets match, none too deep.
func matching(l []api.Token) bool {
	var open []string
	for _, x := range l {
		switch {
		case is(x, "("):
			open = append(open, ")")
		case is(x, "{"):
			open = append(open, "}")
		case is(x, ")") || is(x, "}"):
			if len(open) == 0 || open[len(open)-1] != x.Glyph {
				return false
			}
			open = open[:len(open)-1]
		}
		if len(open) > 20 {
			return false
		}
	}
	return len(open) == 0
}

// partsOf are the tokens of a line's statements.
func partsOf(line string) [][]api.Token {
	l := lex.Plain(lex.Line(line))
	if len(l) == 0 {
		return nil
	}
	if !matching(l) {
		return [][]api.Token{l}
	}
	list, open := [][]api.Token{nil}, 0
	for _, x := range l {
		switch {
		case is(x, "(") || is(x, "{"):
			open++
		case is(x, ")") || is(x, "}"):
			open--
		}
		if is(x, "⋄") && open == 0 {
			list = append(list, nil)
			continue
		}
		list[len(list)-1] = append(list[len(list)-1], x)
	}
	return list
}

// whole are a text's statements, and, of each line, how many names are bound
// ahead of it, and the names that all statements make, parsed as a whole.
func whole(text string) ([]api.Stmt, []int, []api.Bound) {
	var list []api.Stmt
	var ahead []int
	var env []api.Bound
	for i, line := range strings.Split(text, "\n") {
		ahead = append(ahead, len(env))
		for _, p := range partsOf(line) {
			s := api.Stmt{Line: i, L: p}
			s.T, s.E = parse.Statement(p, slices.Clone(env), false)
			if s.E == api.OK && len(s.T) > 1 && s.T[len(s.T)-1].Kind == 8 {
				kid := s.T[len(s.T)-1].Kids[0]
				for s.T[kid].Kind == 5 {
					kid--
				}
				env = append(env, api.Bound{Name: p[0].Text, Fn: slices.Contains([]int{9, 10, 11, 14}, s.T[kid].Kind)})
			}
			list = append(list, s)
		}
	}
	return list, ahead, env
}

// model is what a document should keep: a text, and how many statements were
// parsed.
type model struct {
	text   string
	parsed int
}

// splice is what is put in the place of n bytes.
type splice struct {
	at, n int
	s     string
}

// change is what a splice changes, told by the line ends alone.
func (m model) change(x splice) api.Change {
	return api.Change{
		From: strings.Count(m.text[:x.at], "\n"),
		Old:  strings.Count(m.text[x.at:x.at+x.n], "\n") + 1,
		New:  strings.Count(x.s, "\n") + 1,
	}
}

// function tells whether a name is a function's.
func function(env []api.Bound, name string) bool {
	for _, b := range slices.Backward(env) {
		if b.Name == name {
			return b.Fn
		}
	}
	return false
}

// behind is the model behind a splice.
func (m model) behind(x splice) model {
	next, c := model{m.text[:x.at] + x.s + m.text[x.at+x.n:], m.parsed}, m.change(x)
	_, was, wasEnv := whole(m.text)
	list, ahead, env := whole(next.text)
	again := map[int]bool{}
	for _, s := range list {
		if s.Line < c.From {
			continue
		}
		if s.Line < c.From+c.New {
			again[s.Line] = true
			continue
		}
		old := was[s.Line-c.New+c.Old]
		for _, t := range s.L {
			if t.Kind == 5 && function(wasEnv[:old], t.Text) != function(env[:ahead[s.Line]], t.Text) {
				again[s.Line] = true
			}
		}
	}
	for _, s := range list {
		if again[s.Line] {
			next.parsed++
		}
	}
	return next
}

// equal tells whether statements are the same, field by field.
func equal(a, b []api.Stmt) bool {
	return slices.EqualFunc(a, b, func(x, y api.Stmt) bool {
		return x.Line == y.Line && x.E == y.E && slices.Equal(x.L, y.L) && slices.EqualFunc(x.T, y.T, func(n, m api.Node) bool {
			return n.Kind == m.Kind && n.Text == m.Text && slices.Equal(n.Kids, m.Kids)
		})
	})
}

// of is a new document of a text, and its model.
func of(t *testing.T, s string) (*document.Document, model) {
	t.Helper()
	d, e := document.New(s)
	if e != api.OK || d == nil {
		t.Fatalf("New of %d bytes: %v, %d", len(s), d, e)
	}
	list, _, _ := whole(s)
	return d, model{s, len(list)}
}

// check holds all that a document tells against the model.
func check(t *testing.T, d *document.Document, m model) {
	t.Helper()
	if got := d.Text(); got != m.text {
		t.Fatalf("Text: %q, not %q", got, m.text)
	}
	list, _, env := whole(m.text)
	if got := d.Stmts(); !equal(got, list) || !document.Same(got, list) {
		t.Fatalf("Stmts of %q: %v, not %v", m.text, got, list)
	}
	if got := d.Env(); !slices.Equal(got, env) {
		t.Fatalf("Env of %q: %v, not %v", m.text, got, env)
	}
	if got := d.Parsed(); got != m.parsed {
		t.Fatalf("Parsed of %q: %d, not %d", m.text, got, m.parsed)
	}
}

// do makes a splice that has nothing wrong, and checks what comes of it.
func do(t *testing.T, d *document.Document, m model, s splice) model {
	t.Helper()
	c, e := d.Splice(s.at, s.n, s.s)
	if want := m.change(s); c != want || e != api.OK {
		t.Fatalf("Splice %v of %q: %v, %d, not %v", s, m.text, c, e, want)
	}
	m = m.behind(s)
	check(t, d, m)
	return m
}

// refused makes a splice that has something wrong, and checks that nothing came
// of it.
func refused(t *testing.T, d *document.Document, m model, s splice, want api.Errno) {
	t.Helper()
	if c, e := d.Splice(s.at, s.n, s.s); c != (api.Change{}) || e != want {
		t.Errorf("Splice at %d, of %d, %d bytes: %v, %d, not %d", s.at, s.n, len(s.s), c, e, want)
	}
	check(t, d, m)
}

// pieces are what texts are made of here: statements, and what spoils them.
var pieces = []string{
	"f←+", "f←1", "a←f", "a←(f)", "a f 1", "f 1", "f←{f ⍵}", "a←f/", "f←a", "f/1 2", "1 a 2", "b←{a←+⋄a ⍵}", "b 1", "f←((b))", "2", "b←a 1",
	"a←'f'", "f←f", "(", ")", "{", "}", "'", "#", "⍝ f", "`b", "f", "a", "←", "`s", "+", "1", "/", " ", "\t", "⋄", "`z", ":", "⍵", "⋄⋄",
}

// text is one of up to n pieces, parted by line ends, `⋄`, or by nothing.
func (d *dice) text(n int) string {
	var s string
	for range d.roll(n + 1) {
		s += pieces[d.roll(len(pieces))] + []string{"\n", "⋄", "\n", ""}[d.roll(4)]
	}
	return s
}

// sound is a text of statements alone, none of them spoilt by the next one.
func (d *dice) sound(n int) string {
	var s string
	for range d.roll(n + 1) {
		s += pieces[d.roll(18)] + []string{"\n", "⋄", "\n", "\n\n"}[d.roll(4)]
	}
	return s
}

// P9.2, P9.3: behind any splices, each changing what the one ahead of it left.
func TestManySplices(t *testing.T) {
	d := &dice{9}
	for round := range 120 {
		text := d.text(15)
		if round%2 == 0 {
			text = d.sound(15)
		}
		x, m := of(t, text)
		check(t, x, m)
		for range 25 {
			at := d.roll(len(m.text) + 1)
			s := splice{at, d.roll(len(m.text) - at + 1), d.text(3)}
			switch d.roll(4) {
			case 0:
				s.n = 0
			case 1, 2:
				s.n = min(s.n, d.roll(3))
			}
			m = do(t, x, m, s)
		}
	}
}

// P9.2, P9.3: whole lines, and what stands in them, are put in the place of
// others: so most splices bind names otherwise for lines behind.
func TestManyLines(t *testing.T) {
	d, more := &dice{7}, 0
	for range 100 {
		x, m := of(t, d.sound(12))
		for range 20 {
			ends := []int{0}
			for i, c := range m.text {
				if c == '\n' {
					ends = append(ends, i+1)
				}
			}
			from := d.roll(len(ends))
			to := min(from+d.roll(3), len(ends)-1)
			was, put := m.parsed, d.sound(2)
			m = do(t, x, m, splice{ends[from], ends[to] - ends[from], put})
			if list, _, _ := whole(put); m.parsed > was+len(list)+1 {
				more++
			}
		}
	}
	if more < 400 {
		t.Errorf("only %d splices bound names otherwise", more)
	}
}

// P9.2, P9.3: splices of all places and numbers.
func TestSpliceEverywhere(t *testing.T) {
	for _, text := range []string{"", "\n", "f←+\nf 1", "a⋄f←+\n(f\n{f}1", "f←+\nf←1⋄f\nf", " ⍝f\n#\n\xff⋄'"} {
		for at := range len(text) + 1 {
			for n := range len(text) - at + 1 {
				for _, s := range []string{"", "f", "\n", "1", "'", "\nf←+\n", "f←-⋄", "(", "\xe2\n"} {
					x, m := of(t, text)
					do(t, x, m, splice{at, n, s})
				}
			}
		}
	}
}

// P9.2: bytes that are not there are refused first, whatever is put in, and
// change nothing.
func TestRange(t *testing.T) {
	x, m := of(t, "f←+\nf 1")
	for _, y := range [][2]int{
		{-1, 0}, {-1, 1}, {-1, 20}, {-1, math.MaxInt}, {math.MinInt, 0}, {math.MinInt, math.MinInt}, {math.MinInt, math.MaxInt},
		{10, 0}, {10, -1}, {11, 0}, {math.MaxInt, 0}, {math.MaxInt, 1}, {math.MaxInt, math.MaxInt}, {math.MaxInt, math.MinInt},
		{0, -1}, {3, -1}, {9, -1}, {1, math.MinInt},
		{0, 10}, {3, 7}, {8, 2}, {9, 1}, {1, math.MaxInt}, {9, math.MaxInt},
	} {
		for _, s := range []string{"", "x", "\n", strings.Repeat("x", 4001)} {
			refused(t, x, m, splice{y[0], y[1], s}, api.ErrRange)
		}
	}
	for _, y := range [][2]int{{0, 0}, {9, 0}, {0, 9}, {3, 3}, {8, 1}} {
		x, m := of(t, "f←+\nf 1")
		do(t, x, m, splice{y[0], y[1], "\n"})
	}
}

// P9.2: a text that would be too long is refused, and changes nothing; one of
// just as many bytes as are allowed is not.
func TestFull(t *testing.T) {
	for _, y := range [][2]int{{0, 0}, {0, 9}, {4, 1}, {9, 0}, {5, 4}} {
		x, m := of(t, "f←+\nf 1")
		refused(t, x, m, splice{y[0], y[1], strings.Repeat("\n", 3992+y[1])}, api.ErrFull)
		refused(t, x, m, splice{y[0], y[1], strings.Repeat("x", 1<<20)}, api.ErrFull)
		do(t, x, m, splice{y[0], y[1], strings.Repeat(" ", 3991+y[1])})
	}
}
