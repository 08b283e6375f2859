package number

import (
	"math"

	"diaeresis/api"
)

// check is what is wrong with two numbers, if anything is.
type check func(pair) error

// checker holds two numbers against what a function asks of them.
type checker struct {
	pair
}

// pass is what became of the numbers, if all checks pass, else what the first
// one tells that doesn't.
func (c checker) pass(n int64, checks ...check) (int64, error) {
	for _, fails := range checks {
		if err := fails(c.pair); err != nil {
			return 0, err
		}
	}
	return n, nil
}

// areBits fails unless both are 0 or 1.
func areBits(p pair) error {
	if isBit(p.x) && isBit(p.y) {
		return nil
	}
	return errDomain
}

func isBit(n int64) bool {
	return n == 0 || n == 1
}

// divides fails unless y times some whole number is x.
func divides(p pair) error {
	if p.y == 0 && p.x != 0 || p.y != 0 && p.x%p.y != 0 {
		return fault(api.ErrDivide)
	}
	return nil
}

// fits is nothing, if what is told is so.
func fits(yes bool) error {
	if yes {
		return nil
	}
	return fault(api.ErrOver)
}

// sumFits goes by what has become of the sum: it is less than x just where y is
// below 0, unless it has wrapped round.
func sumFits(p pair) error {
	return fits((p.x+p.y < p.x) == (p.y < 0))
}

// differenceFits is like sumFits, y turned about.
func differenceFits(p pair) error {
	return fits((p.x-p.y < p.x) == (p.y > 0))
}

// productFits holds the product without its sign against the greatest one that
// there is with it: below 0 that is one more.
func productFits(p pair) error {
	limit := uint64(math.MaxInt64)
	if (p.x < 0) != (p.y < 0) {
		limit++
	}
	product, ok := times(size(p.x), size(p.y))
	return fits(ok && product <= limit)
}

// quotientFits fails of the one quotient that is too great.
func quotientFits(p pair) error {
	return fits(p.x != math.MinInt64 || p.y != -1)
}

// oppositeFits fails of the one number whose opposite is too great.
func oppositeFits(p pair) error {
	return fits(p.y != math.MinInt64)
}
