package node

import (
	"strings"

	"diaeresis/api"
)

// builder makes a tree of copies of nodes, in memory of its own.
type builder struct {
	tree
	room []int
}

// build is a builder of so many nodes. All but one are kids: it takes so much
// room for places.
func build(size int) *builder {
	return &builder{tree{make([]api.Node, 0, size)}, make([]int, size-1)}
}

// put puts copies of nodes behind those that are there, their kids' places so
// much greater.
func (b *builder) put(more int, nodes ...api.Node) {
	for _, x := range nodes {
		kids := b.places(len(x.Kids))
		copy(kids, x.Kids)
		for i := range kids {
			kids[i] += more
		}
		b.nodes = append(b.nodes, api.Node{Kind: x.Kind, Text: strings.Clone(x.Text), Kids: kids})
	}
}

// places is a list of n places, cut from the room. It has no room behind it:
// what callers append to one node's kids doesn't write over the next one's.
func (b *builder) places(n int) []int {
	if n == 0 {
		return nil
	}
	list := b.room[:n:n]
	b.room = b.room[n:]
	return list
}

// join is a tree of a root, of a kind and a text, and of kids' trees, or what is
// wrong with it. How many nodes it has is known ahead of any copy, as kids may
// be far too many.
func join(kind int, text string, kids ...[]api.Node) ([]api.Node, error) {
	var b *builder
	var err error
	root, size := api.Node{Kind: kind, Text: text}, 1
	for _, k := range kids {
		if err = (tree{k}).check(); err != nil {
			goto out
		}
		size += len(k)
		if size > api.MaxNodes {
			err = wrong{size - 1, "no tree has its root there"}
			goto out
		}
		root.Kids = append(root.Kids, size-2)
	}
	b = build(size)
	for _, k := range kids {
		b.put(len(b.nodes), k...)
	}
	b.put(0, root)
	if err = b.check(); err == nil {
		return b.nodes, nil
	}
out:
	return nil, err
}
