package ratio

import (
	"fundadmin/api"
	"fundadmin/bigint"
)

// Add returns a + b.
func Add(a, b api.Ratio) (api.Ratio, api.Errno) {
	return operate(a, b, func() (num, den api.Int) {
		return plus(times(a.Num, b.Den), times(b.Num, a.Den)), times(a.Den, b.Den)
	})
}

// Sub returns a - b.
func Sub(a, b api.Ratio) (api.Ratio, api.Errno) {
	return operate(a, b, func() (num, den api.Int) {
		return plus(times(a.Num, b.Den), bigint.Neg(times(b.Num, a.Den))), times(a.Den, b.Den)
	})
}

// Mul returns a * b.
func Mul(a, b api.Ratio) (api.Ratio, api.Errno) {
	return operate(a, b, func() (num, den api.Int) {
		return times(a.Num, b.Num), times(a.Den, b.Den)
	})
}

// Quo returns a / b.
func Quo(a, b api.Ratio) (api.Ratio, api.Errno) {
	return operate(a, b, func() (num, den api.Int) {
		// A b of 0 makes the denominator 0, and ErrZero is what Make says of that.
		return times(a.Num, b.Den), times(a.Den, b.Num)
	})
}

// Sum returns the sum of a list.
func Sum(l []api.Ratio) (api.Ratio, api.Errno) {
	sum := Whole(0)
	for _, r := range l {
		next, e := Add(sum, r)
		if e != api.OK {
			return api.Ratio{}, e
		}
		sum = next
	}
	return sum, api.OK
}

// operate returns what is computed from a and b, if they are valid, in lowest terms.
func operate(a, b api.Ratio, compute func() (num, den api.Int)) (api.Ratio, api.Errno) {
	if !Valid(a) || !Valid(b) {
		return api.Ratio{}, api.ErrRatio
	}
	return Make(compute())
}

// times returns x * y for parts of valid ratios: with at most MaxBits bits each, their product never overflows.
func times(x, y api.Int) api.Int {
	product, _ := bigint.Mul(x, y)
	return product
}

// plus returns x + y for such products, whose sum never overflows either.
func plus(x, y api.Int) api.Int {
	sum, _ := bigint.Add(x, y)
	return sum
}
