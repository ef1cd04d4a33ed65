// Package rat is layer 1: see shared/doc/01-rat.md.
package rat

import (
	"math"
	"math/bits"
	"strconv"

	"ballcock/api"
)

// New is a fraction. ErrArg, ErrOver.
func New(n, d int64) (api.Rat, api.Errno) {
	if d == 0 {
		return api.Rat{}, api.ErrArg
	}
	above, below := size(n), size(d)
	g := divisor(above, below)
	return fit((n < 0) != (d < 0), above/g, below/g)
}

// Right: is it?
func Right(a api.Rat) bool {
	return a.D > 0 && a.N != math.MinInt64 && divisor(size(a.N), size(a.D)) == 1
}

// Add is a sum. ErrArg, ErrOver.
func Add(a, b api.Rat) (api.Rat, api.Errno) {
	if !Right(a) || !Right(b) {
		return api.Rat{}, api.ErrArg
	}
	return sum(a, b)
}

// Sub is a difference. ErrArg, ErrOver.
func Sub(a, b api.Rat) (api.Rat, api.Errno) {
	if !Right(a) || !Right(b) {
		return api.Rat{}, api.ErrArg
	}
	return sum(a, negated(b))
}

// Mul is a product. ErrArg, ErrOver.
func Mul(a, b api.Rat) (api.Rat, api.Errno) {
	if !Right(a) || !Right(b) {
		return api.Rat{}, api.ErrArg
	}
	return product(a, b)
}

// Div is a quotient. ErrArg, ErrOver.
func Div(a, b api.Rat) (api.Rat, api.Errno) {
	if !Right(a) || !Right(b) || b.N == 0 {
		return api.Rat{}, api.ErrArg
	}
	return product(a, inverted(b))
}

// Compare is -1, 0, or 1.
func Compare(a, b api.Rat) int {
	// Valid fractions are in lowest terms, so equal ones have equal fields.
	if a == b || !Right(a) || !Right(b) {
		return 0
	}
	if across(a, negated(b), 1).neg {
		return -1
	}
	return 1
}

// Show is a fraction as a text.
func Show(a api.Rat) string {
	if !Right(a) {
		return "?"
	}
	text := strconv.FormatInt(a.N, 10)
	if a.D != 1 {
		text += "/" + strconv.FormatInt(a.D, 10)
	}
	return text
}

// sum adds two valid fractions. Only a divisor that both denominators share
// can be left in the result, so dividing by it at the start and by what the
// numerator still shares with it at the end yields lowest terms.
func sum(a, b api.Rat) (api.Rat, api.Errno) {
	g := divisor(size(a.D), size(b.D))
	top := across(a, b, g)
	h := divisor(g, top.rest(g))
	n, ok := top.over(h)
	high, d := bits.Mul64(size(a.D)/g, size(b.D)/h)
	if !ok || high != 0 {
		return api.Rat{}, api.ErrOver
	}
	return fit(top.neg, n, d)
}

// product multiplies two valid fractions. Common divisors are taken out
// before, so what does not fit afterwards is the result itself.
func product(a, b api.Rat) (api.Rat, api.Errno) {
	g := divisor(size(a.N), size(b.D))
	h := divisor(size(b.N), size(a.D))
	highN, n := bits.Mul64(size(a.N)/g, size(b.N)/h)
	highD, d := bits.Mul64(size(a.D)/h, size(b.D)/g)
	if highN != 0 || highD != 0 {
		return api.Rat{}, api.ErrOver
	}
	return fit((a.N < 0) != (b.N < 0), n, d)
}

// across is the numerator of the sum of two valid fractions, divided by g,
// a common divisor of their denominators.
func across(a, b api.Rat, g uint64) wide {
	return times(a.N, size(b.D)/g).plus(times(b.N, size(a.D)/g))
}

// negated is -a. It exists, since no valid fraction has the least int64.
func negated(a api.Rat) api.Rat {
	return api.Rat{N: -a.N, D: a.D}
}

// inverted is 1 / a for a valid fraction that is not 0.
func inverted(a api.Rat) api.Rat {
	if a.N < 0 {
		return api.Rat{N: -a.D, D: -a.N}
	}
	return api.Rat{N: a.D, D: a.N}
}

// fit is the fraction of a numerator and a denominator in lowest terms.
func fit(neg bool, n, d uint64) (api.Rat, api.Errno) {
	if n > math.MaxInt64 || d > math.MaxInt64 {
		return api.Rat{}, api.ErrOver
	}
	a := api.Rat{N: int64(n), D: int64(d)}
	if neg {
		a = negated(a)
	}
	return a, api.OK
}

// size is the absolute value. It is unsigned, so that the least int64 has one.
func size(n int64) uint64 {
	if n < 0 {
		return -uint64(n)
	}
	return uint64(n)
}

// divisor is the greatest common divisor; that of 0 and n is n.
func divisor(a, b uint64) uint64 {
	for b != 0 {
		a, b = b, a%b
	}
	return a
}
