package lex

import (
	"iter"
	"strings"

	"diaeresis/api"
	"diaeresis/glyph"
)

// lexer takes a line's tokens, from the left.
type lexer struct {
	rest
	kinds map[int]int
}

// kinds are the classes of the glyphs that are tokens by themselves, and the
// kinds of those.
func kinds() map[int]int {
	return map[int]int{
		api.ClassFn:   api.TokFn,
		api.ClassOp:   api.TokOp,
		api.ClassSign: api.TokSign,
		api.ClassArg:  api.TokArg,
	}
}

// tokens goes through a line's tokens.
func tokens(s string) iter.Seq[api.Token] {
	return func(yield func(api.Token) bool) {
		l := lexer{rest{s}, kinds()}
		for l.left != "" {
			if !yield(l.next()) {
				return
			}
		}
	}
}

// next is the token that comes next. Of any byte there is one, as the last rule
// takes whatever the others leave.
func (l *lexer) next() api.Token {
	x := firstOf(l.blank, l.remark, l.quoted, l.number, l.name, l.sign, l.other)
	l.skip(len(x.Text))
	return own(x)
}

// sign is a glyph that is a token by itself.
func (l *lexer) sign() api.Token {
	g, size := l.nextGlyph()
	kind, ok := l.kinds[glyph.Class(g)]
	if !ok {
		return api.Token{}
	}
	return l.token(kind, size, g)
}

// firstOf is what the first of some rules tells that fits: one that does not
// tells the zero token.
func firstOf(rules ...func() api.Token) api.Token {
	for _, rule := range rules {
		if x := rule(); x != (api.Token{}) {
			return x
		}
	}
	return api.Token{}
}

// own is a token with bytes of its own: one that shared them would keep all that
// they were cut from.
func own(x api.Token) api.Token {
	x.Text, x.Glyph = strings.Clone(x.Text), strings.Clone(x.Glyph)
	return x
}

// without are the tokens of a list that are of none of some kinds.
func without(l []api.Token, kinds ...int) []api.Token {
	var list []api.Token
each:
	for _, x := range l {
		for _, kind := range kinds {
			if x.Kind == kind {
				continue each
			}
		}
		list = append(list, own(x))
	}
	return list
}
