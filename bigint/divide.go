package bigint

import (
	"math"
	"math/bits"

	"fundadmin/api"
)

// divide returns the quotient and the remainder of a and a b that is not 0.
func divide(a, b magnitude) (quotient, rest magnitude) {
	n := limbCount(b)
	if n == 1 {
		quotient, rest[0] = divideByLimb(a, b[0])
		return quotient, rest
	}
	if compare(a, b) < 0 {
		return magnitude{}, a
	}
	return divideByLimbs(a, b, n)
}

// divideByLimb is divide for a divisor of one limb.
func divideByLimb(a magnitude, d uint32) (quotient magnitude, rest uint32) {
	for i := limbCount(a) - 1; i >= 0; i-- {
		quotient[i], rest = bits.Div32(rest, a[i], d)
	}
	return quotient, rest
}

// divideByLimbs is divide for a divisor of n limbs, 2 or more: long division, a limb of the quotient at a time.
func divideByLimbs(a, b magnitude, n int) (quotient, rest magnitude) {
	// A limb of the quotient can be estimated from a few leading limbs only if the divisor begins with a 1 bit.
	shift := bits.LeadingZeros32(b[n-1])
	left, scaled := shiftLeft(a, shift), shiftLeft(b, shift)
	divisor := scaled[:n]
	for i := limbCount(a) - n; i >= 0; i-- {
		window := left[i : i+n+1]
		digit := estimate(window, divisor)
		if takeOff(window, divisor, digit) {
			putBack(window, divisor)
			digit--
		}
		quotient[i] = digit
	}
	return quotient, shiftRight(left, shift)
}

// estimate returns the quotient of window, which has one limb more, and divisor, or that quotient and 1.
func estimate(window, divisor []uint32) uint32 {
	n := len(divisor)
	first, second := uint64(divisor[n-1]), uint64(divisor[n-2])
	head := uint64(window[n])<<limbBits | uint64(window[n-1])
	guess, rest := head/first, head%first
	// Beyond one limb the rest exceeds whatever the second limb of the divisor can ask for.
	for rest <= math.MaxUint32 && (guess > math.MaxUint32 || guess*second > rest<<limbBits|uint64(window[n-2])) {
		guess--
		rest += first
	}
	return uint32(guess)
}

// takeOff subtracts digit times divisor from window, and reports whether that was too much.
func takeOff(window, divisor []uint32, digit uint32) bool {
	carry, borrow := uint64(0), uint32(0)
	for i, limb := range divisor {
		carry += uint64(limb) * uint64(digit)
		window[i], borrow = bits.Sub32(window[i], uint32(carry), borrow)
		carry >>= limbBits
	}
	n := len(divisor)
	window[n], borrow = bits.Sub32(window[n], uint32(carry), borrow)
	return borrow != 0
}

// putBack adds divisor to window, of which it was taken off once too often.
func putBack(window, divisor []uint32) {
	carry := uint32(0)
	for i, limb := range divisor {
		window[i], carry = bits.Add32(window[i], limb, carry)
	}
	// The carry meets the borrow that takeOff left, so that the top limb wraps around to what it should be.
	window[len(divisor)] += carry
}

// shiftLeft multiplies by 2 to the power of shift, which is below limbBits.
func shiftLeft(m magnitude, shift int) [api.Limbs + 1]uint32 {
	var wide [api.Limbs + 1]uint32
	carry := uint64(0)
	for i, limb := range m {
		carry |= uint64(limb) << shift
		wide[i] = uint32(carry)
		carry >>= limbBits
	}
	wide[len(m)] = uint32(carry)
	return wide
}

// shiftRight undoes shiftLeft.
func shiftRight(wide [api.Limbs + 1]uint32, shift int) magnitude {
	var m magnitude
	for i := range m {
		pair := uint64(wide[i+1])<<limbBits | uint64(wide[i])
		m[i] = uint32(pair >> shift)
	}
	return m
}
