package shape

import "diaeresis/api"

// lengths is `⍴`: one item has no length.
func (p pair) lengths() (api.Array, error) {
	if !p.List {
		return blank(true, false, 0), nil
	}
	return join(one(len(p.N))), nil
}

// upTo is `⍳`.
func (p pair) upTo() (api.Array, error) {
	n, err := count(p.Array)
	if err != nil {
		return api.Array{}, err
	}
	made := blank(true, false, n)
	for i := range n {
		made.N[i] = int64(i) + 1
	}
	return made, nil
}

// listed is `,`.
func (p pair) listed() (api.Array, error) {
	return join(p.Array), nil
}

// reversed is `⌽`.
func (p pair) reversed() (api.Array, error) {
	made := blank(p.List, p.Runes, len(p.N))
	for i := range len(p.N) {
		made.N[i] = p.N[len(p.N)-1-i]
	}
	return made, nil
}

// first is `↑`.
func (p pair) first() (api.Array, error) {
	made := blank(false, p.Runes, 1)
	made.N[0] = Fill(p.Runes)
	copy(made.N, p.N)
	return made, nil
}

// counted is `≢`.
func (p pair) counted() (api.Array, error) {
	return one(len(p.N)), nil
}
