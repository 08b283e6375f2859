package number

// function is what becomes of a checker's numbers, or what is wrong.
type function func(checker) (int64, error)

// apply is what becomes of two numbers by the function that is found of a glyph,
// or what is wrong.
func apply(find func(string) (function, bool), g string, p pair) (int64, error) {
	do, ok := find(g)
	if !ok {
		return 0, wrong{g, errDomain}
	}
	n, err := do(checker{p})
	if err != nil {
		err = wrong{g, err}
	}
	return n, err
}

// ofTwo is the function of x and y of a glyph, and whether there is one. They
// stand in two maps, as those are made anew each time, and small ones with much
// less ado.
func ofTwo(g string) (function, bool) {
	do, ok := reckoner(g)
	if !ok {
		do, ok = judge(g)
	}
	return do, ok
}

// reckoner is one that any number may come of.
func reckoner(g string) (function, bool) {
	do, ok := map[string]function{
		"+": func(c checker) (int64, error) { return c.pass(c.x+c.y, sumFits) },
		"-": func(c checker) (int64, error) { return c.pass(c.x-c.y, differenceFits) },
		"×": func(c checker) (int64, error) { return c.pass(c.x*c.y, productFits) },
		"÷": func(c checker) (int64, error) { return c.pass(c.quotient(), divides, quotientFits) },
		"⌈": func(c checker) (int64, error) { return c.pass(max(c.x, c.y)) },
		"⌊": func(c checker) (int64, error) { return c.pass(min(c.x, c.y)) },
		"|": func(c checker) (int64, error) { return c.pass(c.residue()) },
	}[g]
	return do, ok
}

// judge is one that 0 or 1 comes of.
func judge(g string) (function, bool) {
	do, ok := map[string]function{
		"=": compared("="),
		"≠": compared("≠"),
		"<": compared("<"),
		">": compared(">"),
		"≤": compared("≤"),
		"≥": compared("≥"),
		"∧": func(c checker) (int64, error) { return c.pass(c.x&c.y, areBits) },
		"∨": func(c checker) (int64, error) { return c.pass(c.x|c.y, areBits) },
	}[g]
	return do, ok
}

// compared is the function of a comparison's glyph.
func compared(g string) function {
	return func(c checker) (int64, error) {
		if c.holds(g) {
			return c.pass(1)
		}
		return c.pass(0)
	}
}

// ofOne is the function of y of a glyph, and whether there is one.
func ofOne(g string) (function, bool) {
	do, ok := map[string]function{
		"+": same,
		"-": func(c checker) (int64, error) { return c.pass(-c.y, oppositeFits) },
		"×": func(c checker) (int64, error) { return c.pass(c.sign()) },
		"÷": func(c checker) (int64, error) {
			c.x = 1
			return c.pass(c.quotient(), divides)
		},
		"⌈": same,
		"⌊": same,
		"|": func(c checker) (int64, error) { return c.pass(max(c.y, -c.y), oppositeFits) },
		"~": func(c checker) (int64, error) { return c.pass(1-c.y, areBits) },
	}[g]
	return do, ok
}

// same is y itself.
func same(c checker) (int64, error) {
	return c.pass(c.y)
}
