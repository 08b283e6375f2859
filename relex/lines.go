package relex

import (
	"errors"
	"iter"
	"strings"

	"diaeresis/api"
	"diaeresis/lex"
)

// end is what parts two lines.
const end = "\n"

var (
	errRange = errors.New("relex: the text has no such bytes")
	errFull  = errors.New("relex: the text would be too long")
)

// line is what stands between two line ends, and its tokens.
type line struct {
	text   string
	tokens []api.Token
}

// linesOf are a text's lines, each with bytes of its own: one that shared them
// would keep all the text.
func linesOf(text string) []line {
	var list []line
	for _, s := range strings.Split(text, end) {
		list = append(list, line{strings.Clone(s), lex.Line(s)})
	}
	return list
}

// lines are a text's, from its beginning on.
type lines struct {
	list []line
}

// each goes through the lines, each behind the place where it begins.
func (l *lines) each() iter.Seq2[int, line] {
	return func(yield func(int, line) bool) {
		from := 0
		for _, x := range l.list {
			if !yield(from, x) {
				return
			}
			from += len(x.text) + len(end)
		}
	}
}

// size is how many bytes there are. Of no lines it is below 0: they have not
// even the place 0.
func (l *lines) size() int {
	n := -len(end)
	for from, x := range l.each() {
		n = from + len(x.text)
	}
	return n
}

// wrong tells what is wrong with a splice. It takes n from what is behind the
// place, as their sum may wrap round.
func (l *lines) wrong(at, n int, s string) error {
	size := l.size()
	if at < 0 || at > size || n < 0 || n > size-at {
		return errRange
	}
	if stay := size - n; len(s) > api.MaxText-stay {
		return errFull
	}
	return nil
}

// find is the line that a place is in, and where in it: a line end is in the
// line that it ends.
func (l *lines) find(at int) (int, int) {
	n := 0
walk:
	for from, x := range l.each() {
		if at <= from+len(x.text) {
			at -= from
			break walk
		}
		n++
	}
	return n, at
}

// change is what a splice changes, and the text of the lines that stand there
// then.
func (l *lines) change(at, n int, s string) (api.Change, string) {
	first, from := l.find(at)
	last, to := l.find(at + n)
	c := api.Change{From: first, Old: last - first + 1, New: strings.Count(s, end) + 1}
	return c, l.list[first].text[:from] + s + l.list[last].text[to:]
}

// put makes lines stand where a change says. Within one line, as most changes
// are, no other one moves.
func (l *lines) put(c api.Change, list ...line) {
	if c == (api.Change{From: c.From, Old: 1, New: 1}) {
		copy(l.list[c.From:], list)
		return
	}
	// The head has no room behind it: what is put there doesn't write over the
	// tail.
	head, tail := l.list[:c.From:c.From], l.list[c.From+c.Old:]
	l.list = append(append(head, list...), tail...)
}

// text is all the bytes.
func (l *lines) text() string {
	var out strings.Builder
	for from, x := range l.each() {
		if from > 0 {
			out.WriteString(end)
		}
		out.WriteString(x.text)
	}
	return out.String()
}

// tokens are those of the lines from one on, up to another one, with a line
// end's between two of them.
func (l *lines) tokens(from, to int) []api.Token {
	var list []api.Token
	for i, x := range l.list[from:to] {
		if i > 0 {
			list = append(list, api.Token{Kind: api.TokEnd, Text: end})
		}
		list = append(list, x.tokens...)
	}
	return list
}
