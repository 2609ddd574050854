// Package exact adds, multiplies and divides 128-bit integers exactly (layer 1): see shared/doc/01-exact.md.
package exact

import (
	"math/bits"

	"asof/api"
)

// halves is a 128-bit integer without a sign: its elements low and high are its lower and upper 64 bits.
type halves [2]uint64

const (
	low  = 0
	high = 1
)

// Of returns the Wide that stands for n.
func Of(n int) (a api.Wide) {
	return api.Wide{Hi: signBits(n), Lo: uint64(n)}
}

// Add returns a + b modulo 2^128.
func Add(a, b api.Wide) (c api.Wide) {
	sum, carry := bits.Add64(a.Lo, b.Lo, 0)
	return api.Wide{Hi: a.Hi + b.Hi + int(carry), Lo: sum}
}

// Sub returns a - b modulo 2^128.
func Sub(a, b api.Wide) (c api.Wide) {
	difference, borrow := bits.Sub64(a.Lo, b.Lo, 0)
	return api.Wide{Hi: a.Hi - b.Hi - int(borrow), Lo: difference}
}

// Neg returns -a modulo 2^128.
func Neg(a api.Wide) (c api.Wide) {
	return Sub(api.Wide{}, a)
}

// Mul returns a * b.
func Mul(a, b int) (c api.Wide) {
	return Scale(Of(a), b)
}

// Scale returns a * n modulo 2^128.
func Scale(a api.Wide, n int) (c api.Wide) {
	p := product(a.Lo, uint64(n))
	// The upper half of n is its sign; the product of the two upper halves is a multiple of 2^128.
	p[high] += uint64(a.Hi)*uint64(n) + a.Lo*uint64(signBits(n))
	return api.Wide{Hi: int(p[high]), Lo: p[low]}
}

// Compare returns -1, 0 or 1 if the integer of a is less than, equal to, or greater than that of b.
func Compare(a, b api.Wide) (n int) {
	switch {
	case a == b:
		return 0
	case a.Hi < b.Hi, a.Hi == b.Hi && a.Lo < b.Lo:
		return -1
	}
	return 1
}

// Divide returns the integer nearest to a / d, of two nearest ones the even one, and true; 0 and false if d is 0 or this integer is beyond MaxNumber.
func Divide(a api.Wide, d int) (q int, ok bool) {
	dividend, divisor := size(a), size(Of(d))[low]
	if dividend[high] >= divisor { // d is 0, or the quotient is at least 2^64
		return 0, false
	}
	quotient, rest := bits.Div64(dividend[high], dividend[low], divisor)
	if quotient > api.MaxNumber { // checked before rounding too, because 2^64 - 1 would wrap around
		return 0, false
	}
	quotient += roundUp(quotient, rest, divisor)
	if quotient > api.MaxNumber {
		return 0, false
	}
	if (a.Hi < 0) != (d < 0) {
		return -int(quotient), true
	}
	return int(quotient), true
}

// signBits returns the upper half of the Wide that stands for n: 64 copies of its sign.
func signBits(n int) int {
	return n >> 63
}

// product returns a * b.
func product(a, b uint64) (p halves) {
	p[high], p[low] = bits.Mul64(a, b)
	return p
}

// size returns the absolute value of a; without a sign, that of -2^127 fits too.
func size(a api.Wide) halves {
	if a.Hi < 0 {
		a = Neg(a)
	}
	return halves{low: a.Lo, high: uint64(a.Hi)}
}

// roundUp returns what rounding half to even adds to the quotient of a division with this rest.
func roundUp(quotient, rest, divisor uint64) uint64 {
	// The rest is compared with what it lacks, because twice the rest may not fit.
	lack := divisor - rest
	if rest > lack || rest == lack && quotient%2 == 1 {
		return 1
	}
	return 0
}
