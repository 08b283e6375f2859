package number

// pair is the numbers that a function is of: of a function of one x is 0.
type pair struct {
	x, y int64
}

// quotient is the number that times y is x, where there is just one, or where
// both are 0.
func (p pair) quotient() int64 {
	if p.y == 0 {
		return 1
	}
	return p.x / p.y
}

// residue is y less a multiple of x, between 0 and x. Go's remainder goes by the
// sign of y, the residue by that of x.
func (p pair) residue() int64 {
	if p.x == 0 {
		return p.y
	}
	r := p.y % p.x
	if r != 0 && (r < 0) != (p.x < 0) {
		r += p.x
	}
	return r
}

// sign is 1, 0, or -1, as y is above 0, 0, or below.
func (p pair) sign() int64 {
	switch {
	case p.y > 0:
		return 1
	case p.y < 0:
		return -1
	}
	return 0
}

// holds tells whether the comparison of a glyph is so.
func (p pair) holds(g string) bool {
	yes := false
	switch g {
	case "≠":
		yes = p.x != p.y
	case "≤":
		yes = p.x < p.y
		fallthrough
	case "=":
		yes = yes || p.x == p.y
	case "≥":
		yes = p.x == p.y
		fallthrough
	case ">":
		yes = yes || p.x > p.y
	case "<":
		yes = p.x < p.y
	}
	return yes
}
