// Package bigint is layer 1: see shared/doc/01-bigint.md.
package bigint

import (
	"cmp"

	"fundadmin/api"
)

// FromInt returns the Int of an int.
func FromInt(n int) api.Int {
	size := uint64(n)
	if n < 0 {
		// Negated as an int the least one would stay negative; as a uint64 it wraps around to its magnitude.
		size = -size
	}
	return signed(n < 0, magnitude{uint32(size), uint32(size >> limbBits)})
}

// ToInt returns the int of an Int, and whether it fits.
func ToInt(x api.Int) (int, bool) {
	n := int(uint64(x.Mag[1])<<limbBits | uint64(x.Mag[0]))
	if x.Neg {
		n = -n
	}
	// Whatever does not fit has lost a limb or its sign by now, so that the way back leads elsewhere.
	if FromInt(n) != signed(x.Neg, x.Mag) {
		return 0, false
	}
	return n, true
}

// Bits returns the length of the magnitude in bits.
func Bits(x api.Int) int { return bitCount(x.Mag) }

// Sign returns -1, 0 or 1.
func Sign(x api.Int) int {
	if isZero(x.Mag) {
		return 0
	}
	if x.Neg {
		return -1
	}
	return 1
}

// Cmp compares two numbers.
func Cmp(a, b api.Int) int {
	if Sign(a) != Sign(b) {
		return cmp.Compare(Sign(a), Sign(b))
	}
	if a.Neg {
		return compare(b.Mag, a.Mag)
	}
	return compare(a.Mag, b.Mag)
}

// Neg returns -x.
func Neg(x api.Int) api.Int { return signed(!x.Neg, x.Mag) }

// Add returns a + b.
func Add(a, b api.Int) (api.Int, api.Errno) {
	if a.Neg == b.Neg {
		sum, fits := plus(a.Mag, b.Mag)
		return checked(a.Neg, sum, fits)
	}
	if compare(a.Mag, b.Mag) < 0 {
		return signed(b.Neg, minus(b.Mag, a.Mag)), api.OK
	}
	return signed(a.Neg, minus(a.Mag, b.Mag)), api.OK
}

// Sub returns a - b.
func Sub(a, b api.Int) (api.Int, api.Errno) { return Add(a, Neg(b)) }

// Mul returns a * b.
func Mul(a, b api.Int) (api.Int, api.Errno) {
	product, fits := times(a.Mag, b.Mag)
	return checked(a.Neg != b.Neg, product, fits)
}

// DivMod returns the quotient and the remainder that is not negative.
func DivMod(a, b api.Int) (q, r api.Int, e api.Errno) {
	if isZero(b.Mag) {
		return api.Int{}, api.Int{}, api.ErrZero
	}
	quotient, rest := divide(a.Mag, b.Mag)
	if a.Neg && !isZero(rest) {
		// Division of the magnitudes rounds towards 0; a negative a needs one more |b| below it.
		// The quotient has room for that: with a rest, |b| is at least 2.
		quotient, _ = plus(quotient, magnitude{1})
		rest = minus(b.Mag, rest)
	}
	return signed(a.Neg != b.Neg, quotient), signed(false, rest), api.OK
}

// Gcd returns the greatest common divisor.
func Gcd(a, b api.Int) api.Int {
	x, y := magnitude(a.Mag), magnitude(b.Mag)
	for !isZero(y) {
		_, rest := divide(x, y)
		x, y = y, rest
	}
	return signed(false, x)
}

// signed returns the canonical number with this sign and magnitude.
func signed(neg bool, m magnitude) api.Int {
	return api.Int{Neg: neg && !isZero(m), Mag: m}
}

// checked is signed for a magnitude that may have overflowed.
func checked(neg bool, m magnitude, fits bool) (api.Int, api.Errno) {
	if !fits {
		return api.Int{}, api.ErrOverflow
	}
	return signed(neg, m), api.OK
}
