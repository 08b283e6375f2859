package parse

import (
	"diaeresis/api"
	"diaeresis/node"
)

// piece is a function, or else a value or an expression: its tree, and where it
// begins in the list that it ends.
type piece struct {
	tree []api.Node
	fn   bool
	from int
}

// clause is what pieces come to, read from the right: what they are so far, and
// a function ahead of that, which waits until it is known whether a value stands
// ahead of it.
type clause struct {
	right   piece
	waiting []api.Node
}

// add puts a piece ahead of those that were read.
func (c *clause) add(x piece) error {
	switch {
	case c.right.tree == nil:
		c.right = x
		return nil
	case c.right.fn:
		return wrong{"behind a function", errSyntax}
	case x.fn:
		err := c.apply()
		c.waiting = x.tree
		return err
	case c.waiting == nil:
		return wrong{"between two values", errSyntax}
	}
	return c.apply(x.tree)
}

// apply makes a tree of the function that waits, if one does, and what is on its
// right, and a value on its left, if there is one.
func (c *clause) apply(left ...[]api.Node) error {
	if c.waiting == nil {
		return nil
	}
	kind := api.NodeMon
	if len(left) > 0 {
		kind = api.NodeDy
	}
	tree, err := join(kind, "", append(left, c.waiting, c.right.tree)...)
	c.right.tree, c.waiting = tree, nil
	return err
}

// end is the function, or the expression, that all pieces are.
func (c *clause) end() (piece, error) {
	if c.right.tree == nil {
		return piece{}, wrong{"in nothing", errSyntax}
	}
	err := c.apply()
	return piece{tree: c.right.tree, fn: c.right.fn}, err
}

// join is a tree of a root, of a kind and a text, and of those below it.
func join(kind int, text string, trees ...[]api.Node) ([]api.Node, error) {
	t, e := node.Join(kind, text, trees)
	return t, failed("a tree", e)
}
