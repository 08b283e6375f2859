package document

import (
	"iter"

	"diaeresis/api"
)

// line is a line's statements, and the names that stand in them, as they were
// bound ahead of it when it was parsed: its trees hang on nothing else.
type line struct {
	list  []statement
	names []api.Bound
}

// fits tells whether the names that stand in a line are still bound so ahead of
// it.
func (x *line) fits(n *names) bool {
	for _, b := range x.names {
		if b != n.as(b.Name) {
			return false
		}
	}
	return true
}

// parse parses a line's statements, with the names that are bound ahead of it,
// and binds those that they make.
func (x *line) parse(n *names) {
	x.names = nil
	for _, s := range x.list {
		for _, t := range s.tokens {
			if t.Kind == api.TokName {
				x.names = append(x.names, n.as(t.Text))
			}
		}
	}
	for i := range x.list {
		x.list[i].parse(n)
		n.bind(x.list[i])
	}
}

// lines are a text's, from its beginning on.
type lines struct {
	list []line
}

// statements goes through all statements, each with its line.
func (l *lines) statements() iter.Seq2[int, statement] {
	return func(yield func(int, statement) bool) {
		for i, x := range l.list {
			for _, s := range x.list {
				if !yield(i, s) {
					return
				}
			}
		}
	}
}

// ahead are the names that the statements ahead of a line make.
func (l *lines) ahead(line int) *names {
	n := &names{what: map[string]api.Bound{}}
gather:
	for i, s := range l.statements() {
		if i >= line {
			break gather
		}
		n.bind(s)
	}
	return n
}

// put makes lines stand where a change says. The head has no room behind it:
// what is put there doesn't write over the tail.
func (l *lines) put(c api.Change, fresh ...line) {
	head, tail := l.list[:c.From:c.From], l.list[c.From+c.Old:]
	l.list = append(append(head, fresh...), tail...)
}
