package number_test

import (
	"math"
	"math/big"

	"diaeresis/api"
)

// two and one are the glyphs of functions of two, and of one.
var (
	two = []string{"+", "-", "×", "÷", "⌈", "⌊", "|", "=", "≠", "<", ">", "≤", "≥", "∧", "∨"}
	one = []string{"+", "-", "×", "÷", "⌈", "⌊", "|", "~"}
)

// edges are numbers at which something may go wrong, and some between.
func edges() []int64 {
	list := []int64{0, 3037000499, 3037000500, 1 << 62, math.MaxInt64 / 3, math.MaxInt64/3 + 1}
	for n := range int64(13) {
		list = append(list, n+1, math.MaxInt64-n)
	}
	for _, bits := range []int{8, 15, 16, 17, 30, 31, 32, 33, 47, 48, 49, 61, 62} {
		list = append(list, 1<<bits-1, 1<<bits, 1<<bits+1)
	}
	for _, n := range list {
		list = append(list, -n)
	}
	return append(list, math.MinInt64)
}

// truth is 1 of what is so.
func truth(yes bool) *big.Int {
	if yes {
		return big.NewInt(1)
	}
	return new(big.Int)
}

// answer is a number of any size, as it is told.
func answer(n *big.Int) (int64, api.Errno) {
	if !n.IsInt64() {
		return 0, api.ErrOver
	}
	return n.Int64(), api.OK
}

// modelResidue is y less a multiple of x, by Euclid's remainder.
func modelResidue(x, y *big.Int) *big.Int {
	if x.Sign() == 0 {
		return y
	}
	r := new(big.Int).Mod(y, x)
	if x.Sign() < 0 && r.Sign() > 0 {
		r.Add(r, x)
	}
	return r
}

// modelQuotient is what times y is x.
func modelQuotient(x, y *big.Int) (int64, api.Errno) {
	if y.Sign() == 0 {
		if x.Sign() == 0 {
			return 1, api.OK
		}
		return 0, api.ErrDivide
	}
	q, r := new(big.Int).QuoRem(x, y, new(big.Int))
	if r.Sign() != 0 {
		return 0, api.ErrDivide
	}
	return answer(q)
}

// modelDy is what Dy answers, by numbers of any size.
func modelDy(g string, m, n int64) (int64, api.Errno) {
	x, y, z := big.NewInt(m), big.NewInt(n), new(big.Int)
	order := x.Cmp(y)
	switch g {
	case "+":
		return answer(z.Add(x, y))
	case "-":
		return answer(z.Sub(x, y))
	case "×":
		return answer(z.Mul(x, y))
	case "÷":
		return modelQuotient(x, y)
	case "⌈", "⌊":
		if (order > 0) == (g == "⌈") {
			return answer(x)
		}
		return answer(y)
	case "|":
		return answer(modelResidue(x, y))
	case "=":
		return answer(truth(order == 0))
	case "≠":
		return answer(truth(order != 0))
	case "<":
		return answer(truth(order < 0))
	case ">":
		return answer(truth(order > 0))
	case "≤":
		return answer(truth(order <= 0))
	case "≥":
		return answer(truth(order >= 0))
	case "∧", "∨":
		if m < 0 || m > 1 || n < 0 || n > 1 {
			return 0, api.ErrDomain
		}
		ones := m + n
		return answer(truth(ones == 2 || ones == 1 && g == "∨"))
	}
	return 0, api.ErrDomain
}

// modelMon is what Mon answers, likewise.
func modelMon(g string, n int64) (int64, api.Errno) {
	y, z := big.NewInt(n), new(big.Int)
	switch g {
	case "+", "⌈", "⌊":
		return n, api.OK
	case "-":
		return answer(z.Neg(y))
	case "×":
		return int64(y.Sign()), api.OK
	case "÷":
		if n != 1 && n != -1 {
			return 0, api.ErrDivide
		}
		return n, api.OK
	case "|":
		return answer(z.Abs(y))
	case "~":
		if n != 0 && n != 1 {
			return 0, api.ErrDomain
		}
		return answer(truth(n == 0))
	}
	return 0, api.ErrDomain
}
