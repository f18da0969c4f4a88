// Package sample has the numbers that tests of several layers try. No layer calls it.
package sample

import (
	"math"

	"fundadmin/api"
	"fundadmin/bigint"
)

// Power returns 2 to the power of n, which is from 0 to 1023.
func Power(n int) api.Int {
	var x api.Int
	x.Mag[n/32] = 1 << (n % 32)
	return x
}

// Ones returns the greatest number of n bits, of which there are at most 1024.
func Ones(n int) api.Int {
	var x api.Int
	for i := range n {
		x.Mag[i/32] |= 1 << (i % 32)
	}
	return x
}

// MinusZero returns the one number that is not canonical.
func MinusZero() api.Int { return api.Int{Neg: true} }

// Parts returns the ratio with these parts as they are, in lowest terms or not.
func Parts(num, den api.Int) api.Ratio { return api.Ratio{Num: num, Den: den} }

// Frac does the same for short parts.
func Frac(n, d int) api.Ratio { return Parts(bigint.FromInt(n), bigint.FromInt(d)) }

// Broken is a ratio that is not valid.
type Broken struct {
	Why string
	R   api.Ratio
}

// Invalid returns ratios that miss the definition in a single point each, as far as that is possible, and some that miss it in several.
func Invalid() []Broken {
	one, minusZero := bigint.FromInt(1), MinusZero()
	return []Broken{
		{"the zero value", api.Ratio{}},
		{"a denominator of 0", Frac(1, 0)},
		{"-1/0", Frac(-1, 0)},
		{"a denominator that is minus zero", Parts(one, minusZero)},
		{"minus zero / minus zero", Parts(minusZero, minusZero)},
		{"a numerator that is minus zero", Parts(minusZero, one)},
		{"a negative denominator", Frac(1, -2)},
		{"a negative denominator of 1", Frac(3, -1)},
		{"0/-1", Frac(0, -1)},
		{"both parts negative", Frac(-1, -2)},
		{"2/4", Frac(2, 4)},
		{"-2/4", Frac(-2, 4)},
		{"3/3", Frac(3, 3)},
		{"6/2", Frac(6, 2)},
		{"0/2", Frac(0, 2)},
		{"long parts with the divisor 2^64", Parts(Power(400), Power(64))},
		{"long parts with the divisor 2^64 + 1", Parts(api.Int{Mag: [32]uint32{2, 0, 2}}, api.Int{Mag: [32]uint32{3, 0, 3}})},
		{"long parts that are equal", Parts(Ones(480), Ones(480))},
		{"a numerator of 481 bits", Parts(Power(480), one)},
		{"a negative numerator of 481 bits", Parts(bigint.Neg(Power(480)), one)},
		{"a denominator of 481 bits", Parts(one, Power(480))},
		{"both parts of 481 bits", Parts(Power(480), Ones(481))},
		{"a numerator of 1024 bits", Parts(Ones(1024), one)},
		{"a denominator of 1024 bits", Parts(one, Power(1023))},
	}
}

// Valid returns the valid ratios at the edges of the definition.
func Valid() []api.Ratio {
	one, minusOne := bigint.FromInt(1), bigint.FromInt(-1)
	return []api.Ratio{
		Frac(0, 1), Frac(1, 1), Frac(-1, 1), Frac(2, 1), Frac(1, 2), Frac(-1, 2), Frac(-3, 2), Frac(1, 3), Frac(2, 3), Frac(-7, 6), Frac(9, 4), Frac(-10, 7),
		Frac(math.MaxInt, 1), Frac(math.MinInt, 1), Frac(math.MinInt, math.MaxInt), Frac(math.MaxUint32, 1<<32), Frac(1<<32, math.MaxUint32), Frac(1, 1<<32),
		Parts(Power(239), one), Parts(Power(240), Ones(240)), Parts(Ones(240), Power(240)), Parts(minusOne, Ones(240)),
		Parts(Power(479), one), Parts(one, Power(479)), Parts(bigint.Neg(Power(479)), one), Parts(minusOne, Power(479)),
		Parts(Ones(480), one), Parts(one, Ones(480)), Parts(bigint.Neg(Ones(480)), one), Parts(minusOne, Ones(480)),
		Parts(Ones(480), Power(479)), Parts(Power(479), Ones(480)), Parts(bigint.Neg(Ones(480)), Power(479)), Parts(Ones(479), Ones(480)), Parts(Ones(480), Ones(479)),
		Parts(bigint.FromInt(3), Power(479)), Parts(Power(479), bigint.FromInt(3)),
	}
}
