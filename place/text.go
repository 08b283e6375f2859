package place

import (
	"iter"
	"strings"
)

// span is where a line begins, and where it ends.
type span struct {
	from, to int
}

// begins puts behind a list where lines begin.
func begins(list []int, lines ...span) []int {
	for _, l := range lines {
		list = append(list, l.from)
	}
	return list
}

// text is bytes, in lines.
type text struct {
	bytes string
}

// lines goes through the lines, from line 0 on. There is always one.
func (t text) lines() iter.Seq2[int, span] {
	return func(yield func(int, span) bool) {
		from := 0
		for n := 0; ; n++ {
			size := strings.IndexByte(t.bytes[from:], '\n')
			if size < 0 {
				yield(n, span{from, len(t.bytes)})
				return
			}
			if !yield(n, span{from, from + size}) {
				return
			}
			from += size + 1
		}
	}
}

// line is the line of a number.
func (t text) line(n int) (span, error) {
	for i, l := range t.lines() {
		if i == n {
			return l, nil
		}
	}
	return span{}, noPlace()
}

// holding is the line that a place is in, and its number.
func (t text) holding(at int) (int, span, error) {
	if at < 0 {
		return 0, span{}, noPlace()
	}
	for n, l := range t.lines() {
		if at <= l.to {
			return n, l, nil
		}
	}
	return 0, span{}, noPlace()
}
