package bigint

import (
	"cmp"
	"math/bits"

	"fundadmin/api"
)

// limbBits is the number of bits of a limb.
const limbBits = 32

// magnitude is a number that is not negative, the least significant limb first.
type magnitude [api.Limbs]uint32

func isZero(m magnitude) bool { return m == magnitude{} }

// limbCount returns the number of limbs without leading zeros.
func limbCount(m magnitude) int {
	n := len(m)
	for n > 0 && m[n-1] == 0 {
		n--
	}
	return n
}

func bitCount(m magnitude) int {
	n := limbCount(m)
	if n == 0 {
		return 0
	}
	return (n-1)*limbBits + bits.Len32(m[n-1])
}

// compare returns -1, 0 or 1.
func compare(a, b magnitude) int {
	for i := len(a) - 1; i >= 0; i-- {
		if a[i] != b[i] {
			return cmp.Compare(a[i], b[i])
		}
	}
	return 0
}

// plus returns a + b, and whether it fits.
func plus(a, b magnitude) (sum magnitude, fits bool) {
	carry := uint32(0)
	for i := range sum {
		sum[i], carry = bits.Add32(a[i], b[i], carry)
	}
	return sum, carry == 0
}

// minus returns a - b, for a b that is not above a.
func minus(a, b magnitude) magnitude {
	var rest magnitude
	borrow := uint32(0)
	for i := range rest {
		rest[i], borrow = bits.Sub32(a[i], b[i], borrow)
	}
	return rest
}

// times returns a * b, and whether it fits.
func times(a, b magnitude) (product magnitude, fits bool) {
	var wide [2 * api.Limbs]uint32
	m, n := limbCount(a), limbCount(b)
	for i := range m {
		carry := uint64(0)
		for j := range n {
			carry += uint64(a[i])*uint64(b[j]) + uint64(wide[i+j])
			wide[i+j] = uint32(carry)
			carry >>= limbBits
		}
		wide[i+n] = uint32(carry)
	}
	var beyond magnitude
	copy(product[:], wide[:api.Limbs])
	copy(beyond[:], wide[api.Limbs:])
	return product, isZero(beyond)
}
