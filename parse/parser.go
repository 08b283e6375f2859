package parse

import (
	"iter"
	"slices"

	"diaeresis/api"
	"diaeresis/group"
)

// parser reads lists of tokens, with the names that are bound, within braces or
// not.
type parser struct {
	names
	inner   bool
	readers map[api.Token]reader
}

// newParser is a parser with names. It binds more of them without writing into
// the spare room of these.
func newParser(env []api.Bound, inner bool) *parser {
	p := &parser{names: names{env[:len(env):len(env)]}, inner: inner}
	p.readers = map[api.Token]reader{
		{Kind: api.TokNumber}: p.numbers,
		{Kind: api.TokText}:   p.text,
		{Kind: api.TokName}:   p.name,
		{Kind: api.TokArg}:    p.arg,
		{Kind: api.TokFn}:     p.prim,
		{Kind: api.TokOp}:     p.op,
		sign(")"):             p.paren,
		sign("}"):             p.dfn,
	}
	return p
}

// sign is the token of a sign, as head tells it.
func sign(glyph string) api.Token {
	return api.Token{Kind: api.TokSign, Glyph: glyph}
}

// head is a token without what the grammar does not go by: it goes by the kind,
// and by the glyph of a sign.
func head(x api.Token) api.Token {
	if x.Kind == api.TokSign {
		return sign(x.Glyph)
	}
	return api.Token{Kind: x.Kind}
}

// check is what is wrong with tokens, whatever they are read as: nothing, if
// they may be read.
func check(l []api.Token) error {
	if slices.ContainsFunc(l, isOther) {
		return failed("a token", api.ErrTokens)
	}
	_, e := group.Match(l)
	if e == api.OK && len(l) > api.MaxTokens {
		e = api.ErrNode
	}
	return failed("all tokens", e)
}

// isOther tells whether a token is none of those that are read: they have what
// their nodes say.
func isOther(x api.Token) bool {
	switch x.Kind {
	case api.TokNumber, api.TokFn, api.TokOp, api.TokArg:
		return x.Glyph == ""
	case api.TokText, api.TokName:
		return x.Text == ""
	}
	return x.Kind != api.TokSign
}

// statement is the tree of tokens that are a statement.
func (p *parser) statement(l []api.Token) ([]api.Node, error) {
	if len(l) > 1 && l[0].Kind == api.TokName && head(l[1]) == sign("←") {
		return p.set(l[0].Text, l[2:])
	}
	if p.inner {
		if parts, _ := group.Split(l, ":"); len(parts) == 2 {
			return p.guard(parts[0], parts[1])
		}
	}
	return p.expression(l)
}

// set is the tree of a name that is made a function's, or a value's.
func (p *parser) set(name string, l []api.Token) ([]api.Node, error) {
	x, err := p.phrase(l)
	if err != nil {
		return nil, err
	}
	return join(api.NodeSet, name, x.tree)
}

// guard is the tree of two expressions with a colon between.
func (p *parser) guard(left, right []api.Token) ([]api.Node, error) {
	x, err := p.expression(left)
	if err != nil {
		return nil, err
	}
	y, err := p.expression(right)
	if err != nil {
		return nil, err
	}
	return join(api.NodeGuard, "", x, y)
}

// expression is the tree of tokens that are one.
func (p *parser) expression(l []api.Token) ([]api.Node, error) {
	x, err := p.phrase(l)
	if err == nil && x.fn {
		err = wrong{"at a function for an expression", errSyntax}
	}
	return x.tree, err
}

// function is the tree of tokens that are one.
func (p *parser) function(l []api.Token) ([]api.Node, error) {
	x, err := p.phrase(l)
	if err == nil && !x.fn {
		err = wrong{"at an expression for a function", errSyntax}
	}
	return x.tree, err
}

// phrase reads tokens as a function or an expression. No tokens are both: the
// last piece tells which one they are.
func (p *parser) phrase(l []api.Token) (piece, error) {
	var c clause
	for x, err := range p.pieces(l) {
		if err == nil {
			err = c.add(x)
		}
		if err != nil {
			return piece{}, err
		}
	}
	return c.end()
}

// pieces goes through the functions and values of a list from the right, as far
// as it can read them: beside what is wrong it yields no piece, and is over.
func (p *parser) pieces(l []api.Token) iter.Seq2[piece, error] {
	return func(yield func(piece, error) bool) {
		for rest := l; len(rest) > 0; {
			x, err := p.last(rest)
			if !yield(x, err) || err != nil {
				return
			}
			rest = rest[:x.from]
		}
	}
}

// last reads the piece that ends a list.
func (p *parser) last(l []api.Token) (piece, error) {
	if len(l) == 0 {
		return piece{}, wrong{"at the beginning", errSyntax}
	}
	x := l[len(l)-1]
	read, ok := p.readers[head(x)]
	if !ok {
		return piece{}, wrong{"at " + x.Text, errSyntax}
	}
	return read(l)
}
