package parse_test

import (
	"slices"
	"strings"
	"testing"

	"diaeresis/api"
	"diaeresis/lex"
	"diaeresis/node"
	"diaeresis/parse"
)

// model tells all the trees that tokens have by the chapter's words alone: it
// tries each place where they may be cut.
type model struct {
	env   []api.Bound
	inner bool
}

// tree joins a node, and sees to it that it is a tree.
func tree(kind int, text string, kids ...[]api.Node) []api.Node {
	l, e := node.Join(kind, text, kids)
	if e != api.OK {
		panic("the model's tree is none")
	}
	return l
}

// is tells whether a token is a sign.
func is(x api.Token, glyph string) bool { return x.Kind == 8 && x.Glyph == glyph }

// between are the tokens within the first one and the last one, if those are
// such signs. Where brackets are left over there is no tree: to try that for
// long would only take time.
func between(l []api.Token, open, closing string) ([]api.Token, bool) {
	if len(l) < 2 || !is(l[0], open) || !is(l[len(l)-1], closing) {
		return nil, false
	}
	left := 0
	for _, x := range l {
		switch {
		case is(x, "(") || is(x, "{"):
			left++
		case is(x, ")") || is(x, "}"):
			left--
		}
	}
	return l[1 : len(l)-1], left == 0
}

// function tells whether a name is a function's.
func (m model) function(name string) bool {
	fn := false
	for _, b := range m.env {
		if b.Name == name {
			fn = b.Fn
		}
	}
	return fn
}

// functions are trees of tokens as a function.
func (m model) functions(l []api.Token) [][]api.Node {
	var list [][]api.Node
	if n := len(l); n > 1 && l[n-1].Kind == 7 {
		for _, f := range m.functions(l[:n-1]) {
			list = append(list, tree(10, l[n-1].Glyph, f))
		}
	}
	if len(l) == 1 && l[0].Kind == 6 {
		list = append(list, tree(9, l[0].Glyph))
	}
	if len(l) == 1 && l[0].Kind == 5 && m.function(l[0].Text) {
		list = append(list, tree(14, l[0].Text))
	}
	if in, ok := between(l, "(", ")"); ok {
		for _, f := range m.functions(in) {
			list = append(list, tree(5, "", f))
		}
	}
	if in, ok := between(l, "{", "}"); ok {
		for _, kids := range (model{m.env, true}).bodies(in) {
			list = append(list, tree(11, "", kids...))
		}
	}
	return list
}

// bodies are lists of trees of tokens as statements, parted.
func (m model) bodies(l []api.Token) [][][]api.Node {
	var list [][][]api.Node
	for i, x := range l {
		if !is(x, "⋄") {
			continue
		}
		for _, first := range m.statements(l[:i]) {
			for _, others := range (model{m.after(first), m.inner}).bodies(l[i+1:]) {
				list = append(list, append([][]api.Node{first}, others...))
			}
		}
	}
	for _, only := range m.statements(l) {
		list = append(list, [][]api.Node{only})
	}
	return list
}

// after are the names that are bound behind a statement.
func (m model) after(t []api.Node) []api.Bound {
	return append(slices.Clone(m.env), modelBinds(t)...)
}

// modelBinds is the name that a statement's tree makes, if it makes one.
func modelBinds(t []api.Node) []api.Bound {
	root := t[len(t)-1]
	if root.Kind != 8 {
		return nil
	}
	at := root.Kids[0]
	for t[at].Kind == 5 {
		at = t[at].Kids[0]
	}
	return []api.Bound{{Name: root.Text, Fn: slices.Contains([]int{9, 10, 11, 14}, t[at].Kind)}}
}

// values are trees of tokens as a value.
func (m model) values(l []api.Token) [][]api.Node {
	if in, ok := between(l, "(", ")"); ok {
		var list [][]api.Node
		for _, x := range m.exprs(in) {
			list = append(list, tree(5, "", x))
		}
		return list
	}
	var glyphs []string
	for _, x := range l {
		if x.Kind == 3 {
			glyphs = append(glyphs, x.Glyph)
		}
	}
	switch {
	case len(l) > 0 && len(glyphs) == len(l):
		return [][]api.Node{tree(1, strings.Join(glyphs, " "))}
	case len(l) != 1:
		return nil
	case l[0].Kind == 4:
		return [][]api.Node{tree(2, l[0].Text)}
	case l[0].Kind == 5 && !m.function(l[0].Text):
		return [][]api.Node{tree(3, l[0].Text)}
	case l[0].Kind == 9 && m.inner:
		return [][]api.Node{tree(4, l[0].Glyph)}
	}
	return nil
}

// exprs are trees of tokens as an expression.
func (m model) exprs(l []api.Token) [][]api.Node {
	list := m.values(l)
	for i := range l {
		for _, f := range m.functions(l[:i]) {
			for _, right := range m.exprs(l[i:]) {
				list = append(list, tree(6, "", f, right))
			}
		}
		for _, left := range m.values(l[:i]) {
			for k := i; k < len(l); k++ {
				for _, f := range m.functions(l[i:k]) {
					for _, right := range m.exprs(l[k:]) {
						list = append(list, tree(7, "", left, f, right))
					}
				}
			}
		}
	}
	return list
}

// statements are trees of tokens as a statement.
func (m model) statements(l []api.Token) [][]api.Node {
	list := m.exprs(l)
	if len(l) > 1 && l[0].Kind == 5 && is(l[1], "←") {
		for _, x := range append(m.exprs(l[2:]), m.functions(l[2:])...) {
			list = append(list, tree(8, l[0].Text, x))
		}
	}
	for i, x := range l {
		if !m.inner || !is(x, ":") {
			continue
		}
		for _, left := range m.exprs(l[:i]) {
			for _, right := range m.exprs(l[i+1:]) {
				list = append(list, tree(12, "", left, right))
			}
		}
	}
	return list
}

// modelError is what is wrong with tokens ahead of all grammar.
func modelError(l []api.Token) api.Errno {
	brackets, depth, deepest := "", 0, 0
	for _, x := range l {
		glyph := slices.Contains([]int{3, 6, 7, 9}, x.Kind) && x.Glyph != ""
		text := slices.Contains([]int{4, 5}, x.Kind) && x.Text != ""
		if !glyph && !text && x.Kind != 8 {
			return api.ErrTokens
		}
		switch {
		case is(x, "(") || is(x, "{"):
			brackets += x.Glyph
			depth++
			deepest = max(deepest, depth)
		case is(x, ")") || is(x, "}"):
			brackets += x.Glyph
			depth--
		}
	}
	for range len(brackets) {
		brackets = strings.ReplaceAll(strings.ReplaceAll(brackets, "()", ""), "{}", "")
	}
	switch {
	case brackets != "":
		return api.ErrGroup
	case deepest > 20:
		return api.ErrDeep
	case len(l) > 100:
		return api.ErrNode
	}
	return api.OK
}

// call is one of the three calls, and what the model has for it.
type call struct {
	name  string
	does  func([]api.Token, []api.Bound, bool) ([]api.Node, api.Errno)
	trees func(model, []api.Token) [][]api.Node
}

var calls = []call{
	{"Statement", parse.Statement, model.statements},
	{"Expr", parse.Expr, model.exprs},
	{"Fun", parse.Fun, model.functions},
}

// check holds what all calls tell of tokens against the model, and is how many
// of them told a tree.
func check(t *testing.T, l []api.Token, env []api.Bound, inner bool) int {
	t.Helper()
	told := 0
	for _, c := range calls {
		var want []api.Node
		wrong := modelError(l)
		if wrong == api.OK {
			trees := c.trees(model{env, inner}, l)
			switch len(trees) {
			case 0:
				wrong = api.ErrSyntax
			case 1:
				want = trees[0]
				told++
			default:
				t.Fatalf("%s of %s: the model has %d trees", c.name, lex.Text(l), len(trees))
			}
		}
		got, e := c.does(l, env, inner)
		if e != wrong || !node.Same(got, want) || e != api.OK && len(got) != 0 {
			t.Fatalf("%s of %s, %v, %v: %s, %d, not %s, %d", c.name, lex.Text(l), env, inner, node.Show(got), e, node.Show(want), wrong)
		}
	}
	return told
}
