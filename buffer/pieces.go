package buffer

import (
	"iter"
	"strings"
)

// piece is some of a text's bytes, one behind the other. Those of a list are
// never empty, so that there are no more of them than bytes.
type piece struct {
	text string
}

// own is a piece of bytes of its own: one that shared them would keep all the
// text that they were cut from.
func own(s string) piece {
	return piece{strings.Clone(s)}
}

// join puts pieces behind those of a list, and leaves out empty ones.
func join(list []piece, more ...piece) []piece {
	for _, x := range more {
		if x != (piece{}) {
			list = append(list, x)
		}
	}
	return list
}

// pieces are a text's, from its beginning on.
type pieces struct {
	list []piece
}

// each goes through the pieces, each behind the place where it begins.
func (p *pieces) each() iter.Seq2[int, piece] {
	return func(yield func(int, piece) bool) {
		from := 0
		for _, x := range p.list {
			if !yield(from, x) {
				return
			}
			from += len(x.text)
		}
	}
}

// size is how many bytes there are.
func (p *pieces) size() int {
	n := 0
	for from, x := range p.each() {
		n = from + len(x.text)
	}
	return n
}

// split parts the pieces at a place: those ahead of it, what the piece that it
// is within has on either side (nothing, if it is within none), those behind.
func (p *pieces) split(at int) (head []piece, left, right string, tail []piece) {
	n, within := 0, 0
walk:
	for from, x := range p.each() {
		switch {
		case from >= at:
			break walk
		case from+len(x.text) > at:
			left, right = x.text[:at-from], x.text[at-from:]
			within = 1
			break walk
		}
		n++
	}
	// Neither part has room behind it: what is joined to one never writes over
	// what lies behind it here.
	return p.list[:n:n], left, right, p.list[n+within : len(p.list) : len(p.list)]
}

// splice puts s in the place of n bytes. Its list is a new one, as the old one
// would keep the bytes that are taken out.
func (p *pieces) splice(at, n int, s string) {
	if n == 0 && s == "" {
		return
	}
	head, left, _, _ := p.split(at)
	_, _, right, tail := p.split(at + n)
	list := make([]piece, 0, len(p.list)+2)
	list = join(list, head...)
	list = join(list, own(left), own(s), own(right))
	p.list = join(list, tail...)
}

// read is the n bytes from a place on.
func (p *pieces) read(at, n int) string {
	out := make([]byte, n)
	done := 0
walk:
	for from, x := range p.each() {
		switch {
		case done == n:
			break walk
		case from+len(x.text) > at:
			done += copy(out[done:], x.text[max(at-from, 0):])
		}
	}
	return string(out)
}

// compact makes the pieces one.
func (p *pieces) compact() {
	p.list = join(nil, piece{p.read(0, p.size())})
}
