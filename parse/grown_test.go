package parse_test

import (
	"fmt"
	"slices"
	"strings"
	"testing"

	"diaeresis/api"
	"diaeresis/lex"
	"diaeresis/node"
	"diaeresis/parse"
)

// dice are numbers that look like chance, and are the same in every run.
type dice struct{ state uint32 }

func (d *dice) roll(n int) int {
	d.state = d.state*1664525 + 1013904223
	return int(d.state>>8) % n
}

// grower writes texts by the grammar: « and » stand where parentheses may be, and
// need not be.
type grower struct {
	*dice
	env   []api.Bound
	inner bool
}

// named is a name that is a function's, or a value's, if there is such a one.
func (g grower) named(fn bool) string {
	for range 10 {
		if b := g.env[g.roll(len(g.env))]; (model{env: g.env}).function(b.Name) == fn {
			return b.Name
		}
	}
	return map[bool]string{true: "⍴", false: "0"}[fn]
}

// maybe is a text, or the same with parentheses that need not be.
func (g grower) maybe(s string) string {
	if g.roll(4) == 0 {
		return "« " + s + " »"
	}
	return s
}

func (g grower) fun(room int) string {
	s := g.named(true)
	switch g.roll(6) {
	case 0, 1:
		s = []string{"+", "-", "⍴", "=", "⍳"}[g.roll(5)]
	case 2:
		if room > 0 {
			s = "( " + g.fun(room-1) + " )"
		}
	case 3:
		if room > 0 {
			s = "{ " + g.body(room-1) + " }"
		}
	}
	for g.roll(3) == 0 {
		s = g.maybe(s) + []string{" /", " ¨"}[g.roll(2)]
	}
	return g.maybe(s)
}

func (g grower) value(room int) string {
	switch g.roll(6) {
	case 0:
		return g.maybe("1 ¯2 3")
	case 1:
		return g.maybe("'x'")
	case 2:
		if g.inner {
			return g.maybe([]string{"⍺", "⍵"}[g.roll(2)])
		}
	case 3:
		if room > 0 {
			return "( " + g.expr(room-1) + " )"
		}
	case 4:
		return g.maybe(fmt.Sprint(g.roll(10)))
	}
	return g.maybe(g.named(false))
}

func (g grower) expr(room int) string {
	switch g.roll(4) {
	case 0:
		if room > 0 {
			return g.maybe(g.fun(room-1) + " " + g.expr(room-1))
		}
	case 1, 2:
		if room > 0 {
			return g.maybe(g.value(room-1) + " " + g.fun(room-1) + " " + g.expr(room-1))
		}
	}
	return g.value(room)
}

// statement is one, and the name that it makes, if it makes one.
func (g grower) statement(room int) (string, []api.Bound) {
	name := []string{"a", "f", "g", "x", "y", "z"}[g.roll(6)]
	switch g.roll(5) {
	case 0:
		return name + " ← " + g.maybe(g.fun(room)), []api.Bound{{Name: name, Fn: true}}
	case 1:
		return name + " ← " + g.expr(room), []api.Bound{{Name: name}}
	case 2:
		if g.inner {
			return g.expr(room) + " : " + g.expr(room), nil
		}
	}
	return g.expr(room), nil
}

func (g grower) body(room int) string {
	in := grower{g.dice, slices.Clone(g.env), true}
	var parts []string
	for range 1 + g.roll(3) {
		s, more := in.statement(room)
		in.env = append(in.env, more...)
		parts = append(parts, s)
	}
	return strings.Join(parts, " ⋄ ")
}

// with is a grown text with the parentheses that need not be, or without them.
func with(s string, parens bool) []api.Token {
	if parens {
		return of(strings.NewReplacer("«", "(", "»", ")").Replace(s))
	}
	return of(strings.NewReplacer("«", " ", "»", " ").Replace(s))
}

// bare is the show of a tree without its NodeParens.
func bare(t []api.Node, at int) string {
	x := t[at]
	if x.Kind == 5 {
		return bare(t, x.Kids[0])
	}
	s := fmt.Sprintf("%d:%s", x.Kind, x.Text)
	for _, k := range x.Kids {
		s += " (" + bare(t, k) + ")"
	}
	return s
}

// small tells whether tokens are not too many, and not too deep.
func small(l []api.Token) bool { return modelError(l) == api.OK }

// P8.2: texts that are grown by the grammar are read, as the model reads them.
func TestGrown(t *testing.T) {
	d, long := &dice{3}, 0
	for round := range 3000 {
		g := grower{d, some(), d.roll(2) == 0}
		s, more := g.statement(1 + d.roll(3) + round/1500)
		l := with(s, round%2 == 0)
		if !small(l) || len(l) > 45 {
			long++
			continue
		}
		x, e := parse.Statement(l, g.env, g.inner)
		if e != api.OK {
			t.Fatalf("Statement of %s: %d", lex.Text(l), e)
		}
		if b, ok := parse.Binds(x); ok != (len(more) > 0) || ok && b != more[0] {
			t.Fatalf("Binds of %s: %v, %v", lex.Text(l), b, ok)
		}
		check(t, l, g.env, g.inner)
	}
	if long > 1500 {
		t.Errorf("%d texts were too long", long)
	}
}

// P8.2: texts that are grown, and in which something is other than it was.
func TestSpoilt(t *testing.T) {
	d, told := &dice{5}, 0
	others := of("1 a f 'x' + / ( ) { } ⋄ : ← ⍵")
	for range 6000 {
		g := grower{d, some(), d.roll(2) == 0}
		s, _ := g.statement(1 + d.roll(2))
		l := with(s, d.roll(2) == 0)
		if len(l) > 40 {
			continue
		}
		for range 1 + d.roll(2) {
			at := d.roll(len(l))
			switch d.roll(4) {
			case 0:
				l = slices.Delete(l, at, at+1)
			case 1:
				l = slices.Insert(l, at, others[d.roll(len(others))])
			case 2:
				l[at] = others[d.roll(len(others))]
			case 3:
				to := d.roll(len(l))
				l[at], l[to] = l[to], l[at]
			}
			if len(l) == 0 {
				break
			}
		}
		told += check(t, l, g.env, g.inner)
	}
	if told < 500 {
		t.Errorf("only %d calls told a tree", told)
	}
}

// P8.3: parentheses that need not be change nothing but their own nodes.
func TestParens(t *testing.T) {
	d, seen := &dice{9}, 0
	for range 4000 {
		g := grower{d, some(), d.roll(2) == 0}
		s, _ := g.statement(1 + d.roll(4))
		plain, full := with(s, false), with(s, true)
		if !small(full) || len(plain) == len(full) {
			continue
		}
		x, e := parse.Statement(plain, g.env, g.inner)
		y, f := parse.Statement(full, g.env, g.inner)
		if e != api.OK || f != api.OK || bare(x, len(x)-1) != bare(y, len(y)-1) || len(y)-len(x) != (len(full)-len(plain))/2 {
			t.Fatalf("%s: %d, %d, %s, %s", s, e, f, node.Show(x), node.Show(y))
		}
		seen++
	}
	if seen < 1000 {
		t.Errorf("only %d texts had parentheses", seen)
	}
}

// P8.3: what an expression, or a function, is in parentheses is the kid of
// these, and the other way round.
func TestParenKid(t *testing.T) {
	d := &dice{13}
	for range 2000 {
		g := grower{d, some(), d.roll(2) == 0}
		l := with(g.expr(d.roll(3)), true)
		from := d.roll(len(l))
		to := from + 1 + d.roll(len(l)-from)
		if d.roll(2) == 0 {
			from, to = 0, len(l)
		}
		l = l[from:to]
		closed := append(append(of("("), l...), of(")")...)
		if !small(l) || !small(closed) {
			continue
		}
		for _, c := range calls[1:] {
			x, e := c.does(l, g.env, g.inner)
			y, f := c.does(closed, g.env, g.inner)
			k, _ := node.Kid(y, 0)
			if e != f || !node.Same(k, x) || e == api.OK && len(y) != len(x)+1 {
				t.Fatalf("%s of %s: %s, %d, in parentheses %s, %d", c.name, lex.Text(l), node.Show(x), e, node.Show(y), f)
			}
		}
	}
}
