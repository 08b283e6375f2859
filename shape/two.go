package shape

import (
	"diaeresis/api"
	"diaeresis/array"
)

// repeated is `⍴`.
func (p pair) repeated() (api.Array, error) {
	n, err := count(p.left)
	switch {
	case err != nil:
		return api.Array{}, err
	case n > 0 && len(p.N) == 0:
		return api.Array{}, fault(api.ErrLength)
	}
	made := blank(true, p.Runes, n)
	for at := 0; at < n; {
		at += copy(made.N[at:], p.N)
	}
	return made, nil
}

// places is `⍳`: a rune and a number are not the same item.
func (p pair) places() (api.Array, error) {
	if !p.left.List {
		return api.Array{}, fault(api.ErrRank)
	}
	made := blank(p.List, false, len(p.N))
	same := p.left.Runes == p.Runes
items:
	for i := range len(p.N) {
		for at := range len(p.left.N) {
			if same && p.left.N[at] == p.N[i] {
				made.N[i] = int64(at) + 1
				continue items
			}
		}
		made.N[i] = int64(len(p.left.N)) + 1
	}
	return made, nil
}

// joined is `,`.
func (p pair) joined() (api.Array, error) {
	switch {
	case len(p.left.N) > 0 && len(p.N) > 0 && p.left.Runes != p.Runes:
		return api.Array{}, fault(api.ErrDomain)
	case len(p.left.N)+len(p.N) > api.MaxItems:
		return api.Array{}, fault(api.ErrLimit)
	}
	return join(p.left, p.Array), nil
}

// turned is `⌽`: of no items any turn is the same.
func (p pair) turned() (api.Array, error) {
	n, err := number(p.left)
	if err != nil {
		return api.Array{}, err
	}
	if all := int64(len(p.N)); all > 0 {
		n = (n%all + all) % all
	}
	ahead, behind := p.cut(n)
	made := join(behind, ahead)
	made.List = p.List
	return made, nil
}

// taken is `↑`.
func (p pair) taken() (api.Array, error) {
	n, err := number(p.left)
	switch {
	case err != nil:
		return api.Array{}, err
	case n > api.MaxItems || n < -api.MaxItems:
		return api.Array{}, fault(api.ErrLimit)
	}
	items, _ := p.cut(n)
	if n < 0 {
		return join(p.fills(int(-n)-len(items.N)), items), nil
	}
	return join(items, p.fills(int(n)-len(items.N))), nil
}

// dropped is `↓`.
func (p pair) dropped() (api.Array, error) {
	n, err := number(p.left)
	if err != nil {
		return api.Array{}, err
	}
	_, others := p.cut(n)
	return join(others), nil
}

// differs is `≢`.
func (p pair) differs() (api.Array, error) {
	if array.Same(p.left, p.Array) {
		return one(0), nil
	}
	return one(1), nil
}
