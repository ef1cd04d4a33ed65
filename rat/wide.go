package rat

import "math/bits"

// wide is a sign and an absolute value of 128 bits. It holds every product of
// an int64 and a denominator, and the sum of two of them, so that only the
// reduced result decides what overflows. A 0 may have either sign.
type wide struct {
	neg       bool
	high, low uint64
}

// times is the product of two numbers.
func times(n int64, by uint64) wide {
	high, low := bits.Mul64(size(n), by)
	return wide{n < 0, high, low}
}

// plus is the sum.
func (w wide) plus(v wide) wide {
	if w.neg == v.neg {
		low, carry := bits.Add64(w.low, v.low, 0)
		high, _ := bits.Add64(w.high, v.high, carry)
		return wide{w.neg, high, low}
	}
	if w.smaller(v) {
		w, v = v, w
	}
	low, borrow := bits.Sub64(w.low, v.low, 0)
	high, _ := bits.Sub64(w.high, v.high, borrow)
	return wide{w.neg, high, low}
}

// smaller tells whether the absolute value of w is less than that of v.
func (w wide) smaller(v wide) bool {
	return w.high < v.high || w.high == v.high && w.low < v.low
}

// rest is the remainder of the absolute value divided by d, which is not 0.
func (w wide) rest(d uint64) uint64 {
	return bits.Rem64(w.high, w.low, d)
}

// over is the absolute value divided by d; false if it needs more than 64 bits.
func (w wide) over(d uint64) (uint64, bool) {
	if w.high >= d {
		return 0, false
	}
	quotient, _ := bits.Div64(w.high, w.low, d)
	return quotient, true
}
