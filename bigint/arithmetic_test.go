package bigint_test

import (
	"math"
	"math/big"
	"testing"

	"fundadmin/api"
	"fundadmin/bigint"
)

// compute is a function of two numbers, as the package and as math/big has it.
type compute struct {
	name string
	ours func(a, b api.Int) (api.Int, api.Errno)
	bigs func(z, a, b *big.Int) *big.Int
}

// TestArithmetic is of P1.2: all pairs of samples, with those that overflow.
func TestArithmetic(t *testing.T) {
	overflows := map[string]int{}
	for _, f := range []compute{
		{"Add", bigint.Add, (*big.Int).Add}, {"Sub", bigint.Sub, (*big.Int).Sub}, {"Mul", bigint.Mul, (*big.Int).Mul},
	} {
		for _, a := range samples() {
			for _, b := range samples() {
				want, wrong := fromBig(f.bigs(new(big.Int), toBig(a), toBig(b)))
				if x, e := f.ours(a, b); x != want || e != wrong {
					t.Errorf("%s(%s, %s) is %s, error %d", f.name, show(a), show(b), show(x), e)
				}
				if wrong != api.OK {
					overflows[f.name]++
				}
			}
		}
		if overflows[f.name] == 0 {
			t.Errorf("no samples for which %s overflows", f.name)
		}
	}
}

// TestSums is of P1.2, written out: carries, borrows, signs and zeros.
func TestSums(t *testing.T) {
	m := uint32(math.MaxUint32)
	for _, c := range []struct{ a, b, sum api.Int }{
		{limbs(false, 2), limbs(false, 3), limbs(false, 5)},
		{limbs(true, 2), limbs(true, 3), limbs(true, 5)},
		{limbs(true, 2), limbs(false, 3), limbs(false, 1)},
		{limbs(false, 2), limbs(true, 3), limbs(true, 1)},
		{limbs(true, 3), limbs(false, 3), zero},
		{limbs(false, m, m, m), limbs(false, 1), limbs(false, 0, 0, 0, 1)},
		{limbs(false, 0, 0, 0, 1), limbs(true, 1), limbs(false, m, m, m)},
		{zero, zero, zero}, {minusZero, minusZero, zero}, {minusZero, zero, zero},
		{minusZero, limbs(true, 4), limbs(true, 4)}, {minusZero, limbs(false, 4), limbs(false, 4)},
		{greatest(), least(), zero},
		{power(1023), difference(t, power(1023), limbs(false, 1)), greatest()},
	} {
		if x, e := bigint.Add(c.a, c.b); x != c.sum || e != api.OK {
			t.Errorf("%s + %s is %s, error %d", show(c.a), show(c.b), show(x), e)
		}
		if x, e := bigint.Sub(c.sum, c.b); x != canonical(c.a) || e != api.OK {
			t.Errorf("%s - %s is %s, error %d", show(c.sum), show(c.b), show(x), e)
		}
	}
}

// TestProducts is of P1.2, written out.
func TestProducts(t *testing.T) {
	m := uint32(math.MaxUint32)
	for _, c := range []struct{ a, b, product api.Int }{
		{limbs(false, 6), limbs(false, 7), limbs(false, 42)},
		{limbs(true, 6), limbs(false, 7), limbs(true, 42)},
		{limbs(false, 6), limbs(true, 7), limbs(true, 42)},
		{limbs(true, 6), limbs(true, 7), limbs(false, 42)},
		{limbs(false, m), limbs(false, m), limbs(false, 1, m-1)},
		{limbs(false, m, m), limbs(false, m, m), limbs(false, 1, 0, m-1, m)},
		{limbs(true, 6), zero, zero}, {limbs(true, 6), minusZero, zero}, {minusZero, minusZero, zero}, {least(), zero, zero},
		{power(1000), power(23), power(1023)}, {greatest(), limbs(true, 1), least()}, {least(), limbs(true, 1), greatest()},
	} {
		if x, e := bigint.Mul(c.a, c.b); x != c.product || e != api.OK {
			t.Errorf("%s * %s is %s, error %d", show(c.a), show(c.b), show(x), e)
		}
	}
}

// TestOverflow is of P1.2: results of 1025 bits and of more, by which nothing else is returned.
func TestOverflow(t *testing.T) {
	for _, c := range []struct {
		name string
		f    func(a, b api.Int) (api.Int, api.Errno)
		a, b api.Int
	}{
		{"Add", bigint.Add, greatest(), limbs(false, 1)}, {"Add", bigint.Add, power(1023), power(1023)}, {"Add", bigint.Add, least(), limbs(true, 1)}, {"Add", bigint.Add, greatest(), greatest()},
		{"Sub", bigint.Sub, least(), limbs(false, 1)}, {"Sub", bigint.Sub, greatest(), limbs(true, 1)}, {"Sub", bigint.Sub, power(1023), bigint.Neg(power(1023))},
		{"Mul", bigint.Mul, power(1023), limbs(false, 2)}, {"Mul", bigint.Mul, power(512), power(512)}, {"Mul", bigint.Mul, limbs(true, 2), power(1023)},
		{"Mul", bigint.Mul, greatest(), least()}, {"Mul", bigint.Mul, greatest(), limbs(false, 2)}, {"Mul", bigint.Mul, power(1023), power(1023)},
	} {
		if x, e := c.f(c.a, c.b); x != zero || e != api.ErrOverflow {
			t.Errorf("%s(%s, %s) is %s, error %d", c.name, show(c.a), show(c.b), show(x), e)
		}
	}
}
