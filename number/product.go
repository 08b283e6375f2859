package number

// A number of 64 bits has 4 digits of 16. Digits are so narrow that all that is
// added up in a column of a product has room in 64 bits, too.
const (
	digits = 4
	width  = 16
	mask   = 1<<width - 1
)

// size is a number without its sign: of the least one, too.
func size(n int64) uint64 {
	if n < 0 {
		return -uint64(n)
	}
	return uint64(n)
}

// digit is one of a number's, the least one at 0; past the last one it is 0.
func digit(n uint64, at int) uint64 {
	return n >> (at * width) & mask
}

// times is the product of two numbers, and true; or false, if it has more digits
// than they may have. It has no more than twice as many: nothing is carried past
// the last column.
func times(a, b uint64) (uint64, bool) {
	product, column, ok := uint64(0), uint64(0), true
walk:
	for at := range 2 * digits {
		for i := range at + 1 {
			column += digit(a, i) * digit(b, at-i)
		}
		switch d := column & mask; {
		case at < digits:
			product |= d << (at * width)
		case d != 0:
			product, ok = 0, false
			break walk
		}
		column >>= width
	}
	return product, ok
}
