package node

import (
	"slices"

	"diaeresis/api"
)

// form is what nodes of a kind are made of: how many kids, and whether with a
// text.
type form struct {
	kids int
	text bool
}

// some is how many kids a form has that may have any number of them but none.
const some = -1

// forms are those of all kinds.
func forms() map[int]form {
	leaf, hull := form{0, true}, form{1, false}
	return map[int]form{
		api.NodeNumber: leaf,
		api.NodeText:   leaf,
		api.NodeName:   leaf,
		api.NodeArg:    leaf,
		api.NodePrim:   leaf,
		api.NodeFun:    leaf,
		api.NodeError:  leaf,
		api.NodeParen:  hull,
		api.NodeSet:    {1, true},
		api.NodeOp:     {1, true},
		api.NodeMon:    {2, false},
		api.NodeGuard:  {2, false},
		api.NodeDy:     {3, false},
		api.NodeDfn:    {some, false},
	}
}

// fits tells whether a node is of its kind's form.
func fits(x api.Node, known map[int]form) bool {
	want, ok := known[x.Kind]
	got := form{len(x.Kids), x.Text != ""}
	if want.kids == some && got.kids > 0 {
		got.kids = some
	}
	return ok && got == want
}

// take takes kids' places from those that are free, and tells whether it could:
// they must be there, and rise.
func take(free []bool, kids []int) bool {
	least := 0
	for _, k := range kids {
		if k < least || k >= len(free) || !free[k] {
			return false
		}
		free[k] = false
		least = k + 1
	}
	return true
}

// tree is nodes that are to be one.
type tree struct {
	nodes []api.Node
}

// root is the place of the last node.
func (t tree) root() int {
	return len(t.nodes) - 1
}

// check is what is wrong with the nodes as a tree: nothing, if they are one.
func (t tree) check() error {
	if len(t.nodes) < 1 || len(t.nodes) > api.MaxNodes {
		return wrong{t.root(), "no tree has its root there"}
	}
	var err error
	known, free := forms(), slices.Repeat([]bool{true}, len(t.nodes))
walk:
	for at, x := range slices.All(t.nodes) {
		switch {
		case !fits(x, known):
			err = wrong{at, "it is not of its kind's form"}
			break walk
		case !take(free[:at], x.Kids):
			err = wrong{at, "its kids are not free, ahead of it, and rising"}
			break walk
		}
	}
	if at := slices.Index(free, true); err == nil && at < t.root() {
		err = wrong{at, "it is nobody's kid"}
	}
	return err
}

// reach is what hangs on a node: how many nodes there are down to the furthest
// one, how many in all, and where the first one of them stands.
type reach struct {
	deep, size, first int
}

// reaches are a tree's nodes'. A node's kids stand ahead of it: theirs are known
// when it is come to.
func (t tree) reaches() []reach {
	list := make([]reach, 0, len(t.nodes))
	for at, x := range slices.All(t.nodes) {
		r := reach{1, 1, at}
		for _, k := range x.Kids {
			r.deep = max(r.deep, list[k].deep+1)
			r.size += list[k].size
			r.first = min(r.first, list[k].first)
		}
		list = append(list, r)
	}
	return list
}

// kid is a new tree of the root's kid of a number, or what is wrong with it.
func (t tree) kid(n int) ([]api.Node, error) {
	if err := t.check(); err != nil {
		return nil, err
	}
	kids := t.nodes[t.root()].Kids
	if n < 0 || n >= len(kids) {
		return nil, wrong{t.root(), "it has no such kid"}
	}
	at := kids[n]
	r := t.reaches()[at]
	if r.size != at-r.first+1 {
		return nil, wrong{at, "nodes of others stand among its own"}
	}
	b := build(r.size)
	b.put(-r.first, t.nodes[r.first:at+1]...)
	return b.nodes, nil
}
