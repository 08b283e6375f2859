package document

import (
	"slices"
	"strings"

	"diaeresis/api"
	"diaeresis/group"
	"diaeresis/lex"
	"diaeresis/parse"
)

// statement is one that is kept: its tokens, its tree, or what is wrong, and the
// name that it makes, if it makes one. In which line it is may change without
// it.
type statement struct {
	tokens []api.Token
	tree   []api.Node
	wrong  api.Errno
	makes  []api.Bound
}

// statementsOf are the statements of a line's tokens, not parsed. Where brackets
// don't match, no `⋄` is known to part two of them.
func statementsOf(l []api.Token) []statement {
	l = lex.Plain(l)
	if len(l) == 0 {
		return nil
	}
	parts, e := group.Split(l, "⋄")
	if e != api.OK {
		parts = [][]api.Token{l}
	}
	list := make([]statement, len(parts))
	for i, p := range parts {
		list[i].tokens = p
	}
	return list
}

// parse parses a statement, with the names that are bound ahead of it.
func (s *statement) parse(n *names) {
	s.tree, s.wrong = parse.Statement(s.tokens, n.list, false)
	s.makes = nil
	if b, ok := parse.Binds(s.tree); ok {
		s.makes = []api.Bound{b}
	}
}

// tell is a statement of a line, in memory of its own.
func (s statement) tell(line int) api.Stmt {
	out := api.Stmt{Line: line, E: s.wrong}
	for _, x := range s.tokens {
		out.L = append(out.L, api.Token{Kind: x.Kind, Text: strings.Clone(x.Text), Glyph: strings.Clone(x.Glyph)})
	}
	for _, x := range s.tree {
		out.T = append(out.T, api.Node{Kind: x.Kind, Text: strings.Clone(x.Text), Kids: slices.Clone(x.Kids)})
	}
	return out
}
