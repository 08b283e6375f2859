package node

import (
	"strconv"

	"diaeresis/api"
)

const digits = "0123456789abcdef"

// writer writes a tree's show.
type writer struct {
	tree
	out []byte
}

// node writes the show of the node at a place.
func (w *writer) node(at int) {
	x := w.nodes[at]
	if len(x.Kids) == 0 {
		w.says(x)
		return
	}
	w.out = append(w.out, '(')
	w.says(x)
	for _, k := range x.Kids {
		w.out = append(w.out, ' ')
		w.node(k)
	}
	w.out = append(w.out, ')')
}

// says writes what a node is by itself.
func (w *writer) says(x api.Node) {
	w.out = strconv.AppendInt(w.out, int64(x.Kind), 10)
	w.out = append(w.out, ':')
	for i := range len(x.Text) {
		c := x.Text[i]
		if plain(c) {
			w.out = append(w.out, c)
		} else {
			w.out = append(w.out, '%', digits[c>>4], digits[c&15])
		}
	}
}

// plain tells whether a byte stands in a show as it is.
func plain(c byte) bool {
	switch c {
	case '%', '(', ')', ':':
		return false
	}
	return c > ' ' && c <= '~'
}
