package document

import "diaeresis/api"

// names are those that statements make, in order, and what each of them is: what
// the last one of it says.
type names struct {
	list []api.Bound
	what map[string]api.Bound
}

// as is a name, as it is bound: one that is not is no function's.
func (n *names) as(name string) api.Bound {
	return api.Bound{Name: name, Fn: n.what[name].Fn}
}

// bind puts the names that statements make behind those that are there.
func (n *names) bind(list ...statement) {
	for _, s := range list {
		for _, b := range s.makes {
			n.list = append(n.list, b)
			n.what[b.Name] = b
		}
	}
}
