package parse

import (
	"slices"
	"strings"

	"diaeresis/api"
	"diaeresis/group"
)

// reader reads the piece that ends a list of tokens, which is not empty: its
// last token tells which reader fits.
type reader func(l []api.Token) (piece, error)

// numbers reads all numbers that stand one behind the other.
func (p *parser) numbers(l []api.Token) (piece, error) {
	var glyphs []string
walk:
	for _, x := range slices.Backward(l) {
		if x.Kind != api.TokNumber {
			break walk
		}
		glyphs = append(glyphs, x.Glyph)
	}
	slices.Reverse(glyphs)
	return leaf(api.NodeNumber, strings.Join(glyphs, " "), len(l)-len(glyphs))
}

func (p *parser) text(l []api.Token) (piece, error) {
	at := len(l) - 1
	return leaf(api.NodeText, l[at].Text, at)
}

// name reads a name, as what it is by the names that are bound.
func (p *parser) name(l []api.Token) (piece, error) {
	at := len(l) - 1
	kind := api.NodeName
	if fn, _ := p.class(l[at].Text); fn {
		kind = api.NodeFun
	}
	return leaf(kind, l[at].Text, at)
}

// arg reads what stands for an argument, which there is within braces alone.
func (p *parser) arg(l []api.Token) (piece, error) {
	at := len(l) - 1
	if !p.inner {
		return piece{}, wrong{"at an argument out of braces", errSyntax}
	}
	return leaf(api.NodeArg, l[at].Glyph, at)
}

func (p *parser) prim(l []api.Token) (piece, error) {
	at := len(l) - 1
	return leaf(api.NodePrim, l[at].Glyph, at)
}

// op reads an operator, and the function that it is of.
func (p *parser) op(l []api.Token) (piece, error) {
	at := len(l) - 1
	x, err := p.last(l[:at])
	if err == nil && !x.fn {
		err = wrong{"at an operator behind a value", errSyntax}
	}
	if err != nil {
		return piece{}, err
	}
	tree, err := join(api.NodeOp, l[at].Glyph, x.tree)
	return piece{tree, true, x.from}, err
}

// paren reads parentheses: they are what stands in them.
func (p *parser) paren(l []api.Token) (piece, error) {
	in, from, err := inside(l)
	if err != nil {
		return piece{}, err
	}
	x, err := p.phrase(in)
	if err != nil {
		return piece{}, err
	}
	tree, err := join(api.NodeParen, "", x.tree)
	return piece{tree, x.fn, from}, err
}

// dfn reads braces. Names that are made in them are bound in what follows there,
// and not behind them.
func (p *parser) dfn(l []api.Token) (piece, error) {
	in, from, err := inside(l)
	if err != nil {
		return piece{}, err
	}
	parts, e := group.Split(in, "⋄")
	if e != api.OK {
		return piece{}, failed("a body", e)
	}
	body := newParser(p.bound, true)
	var trees [][]api.Node
	for _, part := range parts {
		t, err := body.statement(part)
		if err != nil {
			return piece{}, err
		}
		if b, ok := Binds(t); ok {
			body.bind(b)
		}
		trees = append(trees, t)
	}
	tree, err := join(api.NodeDfn, "", trees...)
	return piece{tree, true, from}, err
}

// leaf is the piece of a node of a kind and a text, without others below it.
func leaf(kind int, text string, from int) (piece, error) {
	tree, err := join(kind, text)
	return piece{tree, isFunction(kind), from}, err
}

// inside is what stands between the last token, a bracket, and its partner, and
// where that one is.
func inside(l []api.Token) ([]api.Token, int, error) {
	pairs, e := group.Match(l)
	if e != api.OK {
		return nil, 0, failed("brackets", e)
	}
	to := len(l) - 1
	from := pairs[to]
	return l[from+1 : to : to], from, nil
}
