package bigint_test

import (
	"math"
	"math/big"
	"testing"

	"fundadmin/api"
	"fundadmin/bigint"
)

// checkDivMod compares DivMod with the Euclidean division of math/big.
func checkDivMod(t *testing.T, a, b api.Int) {
	t.Helper()
	wantQ, wantR := new(big.Int).DivMod(toBig(a), toBig(b), new(big.Int))
	q, r, e := bigint.DivMod(a, b)
	x, _ := fromBig(wantQ)
	y, _ := fromBig(wantR)
	if q != x || r != y || e != api.OK {
		t.Errorf("DivMod(%s, %s) is %s, %s, error %d", show(a), show(b), show(q), show(r), e)
	}
}

// TestDivMod is of P1.3: all signs, dividends below the divisor, and no remainder.
func TestDivMod(t *testing.T) {
	for _, c := range []struct{ a, b, q, r int }{
		{7, 3, 2, 1}, {-7, 3, -3, 2}, {7, -3, -2, 1}, {-7, -3, 3, 2},
		{6, 3, 2, 0}, {-6, 3, -2, 0}, {6, -3, -2, 0}, {-6, -3, 2, 0},
		{2, 5, 0, 2}, {-2, 5, -1, 3}, {2, -5, 0, 2}, {-2, -5, 1, 3},
		{0, 5, 0, 0}, {0, -5, 0, 0}, {5, 1, 5, 0}, {-5, 1, -5, 0}, {5, -1, -5, 0}, {-5, -1, 5, 0},
		{1 << 40, 1<<33 + 1, 127, 1<<33 - 127}, {math.MinInt, math.MaxInt, -2, math.MaxInt - 1},
	} {
		q, r, e := bigint.DivMod(bigint.FromInt(c.a), bigint.FromInt(c.b))
		if q != bigint.FromInt(c.q) || r != bigint.FromInt(c.r) || e != api.OK {
			t.Errorf("DivMod(%d, %d) is %s, %s, error %d", c.a, c.b, show(q), show(r), e)
		}
	}
}

// TestDivisionByZero is of P1.3.
func TestDivisionByZero(t *testing.T) {
	for _, a := range samples() {
		for _, b := range []api.Int{zero, minusZero} {
			if q, r, e := bigint.DivMod(a, b); q != zero || r != zero || e != api.ErrZero {
				t.Errorf("DivMod(%s, %s) is %s, %s, error %d", show(a), show(b), show(q), show(r), e)
			}
		}
	}
}

// TestDivisionOfMinusZero is of P1.3: an argument that is not canonical.
func TestDivisionOfMinusZero(t *testing.T) {
	for _, b := range []api.Int{limbs(false, 1), limbs(true, 3), power(1023), least()} {
		if q, r, e := bigint.DivMod(minusZero, b); q != zero || r != zero || e != api.OK {
			t.Errorf("DivMod(minus zero, %s) is %s, %s, error %d", show(b), show(q), show(r), e)
		}
	}
}

// TestDivModOfSamples is of P1.3: all pairs of samples, the least and the greatest number among them.
func TestDivModOfSamples(t *testing.T) {
	for _, a := range samples() {
		for _, b := range samples() {
			if bigint.Sign(b) != 0 {
				checkDivMod(t, a, b)
			}
		}
	}
}

// TestDivModOfLimbs is of P1.3: limbs for which the estimate of a limb of the quotient is wrong by 1 or by 2.
func TestDivModOfLimbs(t *testing.T) {
	some := []uint32{0, 1, 1<<31 - 1, 1 << 31, 1<<31 + 1, math.MaxUint32 - 1, math.MaxUint32}
	var three []api.Int
	for _, x := range some {
		for _, y := range some {
			for _, z := range some {
				three = append(three, limbs(false, x, y, z))
			}
		}
	}
	for _, b := range three[1:] {
		for i, a := range three {
			a.Mag[3] = some[i%len(some)]
			checkDivMod(t, a, b)
			a.Mag[3], a.Mag[4] = b.Mag[1], b.Mag[2]
			checkDivMod(t, a, b)
		}
	}
	for _, c := range [][2]api.Int{
		{limbs(false, 3, 0, 1<<31), limbs(false, 1, 0, 1<<29)},
		{limbs(false, 0, 0, 1<<15, 1<<15-1), limbs(false, 1, 0, 1<<15)},
		{limbs(false, 0, math.MaxUint32-1, 1<<31), limbs(false, math.MaxUint32, 1<<31)},
	} {
		checkDivMod(t, c[0], c[1])
	}
}

// TestGcd is of P1.4.
func TestGcd(t *testing.T) {
	for _, c := range []struct{ a, b, gcd api.Int }{
		{limbs(false, 12), limbs(false, 18), limbs(false, 6)}, {limbs(true, 12), limbs(false, 18), limbs(false, 6)}, {limbs(true, 12), limbs(true, 18), limbs(false, 6)},
		{zero, zero, zero}, {minusZero, minusZero, zero}, {zero, minusZero, zero},
		{zero, limbs(true, 5), limbs(false, 5)}, {limbs(true, 5), zero, limbs(false, 5)}, {limbs(true, 5), minusZero, limbs(false, 5)}, {minusZero, limbs(true, 5), limbs(false, 5)},
		{limbs(false, 17), limbs(false, 5), limbs(false, 1)}, {limbs(true, 1), greatest(), limbs(false, 1)},
		{power(1023), power(1000), power(1000)}, {least(), least(), greatest()}, {zero, least(), greatest()},
		{limbs(false, 0, 6), limbs(true, 0, 0, 9), limbs(false, 0, 6)}, {limbs(false, 0, 6), limbs(true, 9), limbs(false, 3)},
	} {
		if x := bigint.Gcd(c.a, c.b); x != c.gcd {
			t.Errorf("Gcd(%s, %s) is %s", show(c.a), show(c.b), show(x))
		}
	}
	for _, a := range samples() {
		for _, b := range samples() {
			want, _ := fromBig(new(big.Int).GCD(nil, nil, toBig(a), toBig(b)))
			if x := bigint.Gcd(a, b); x != want {
				t.Errorf("Gcd(%s, %s) is %s", show(a), show(b), show(x))
			}
		}
	}
}

// TestGcdOfMultiples is of P1.4: numbers whose common divisor is long.
func TestGcdOfMultiples(t *testing.T) {
	for _, d := range samples() {
		if bigint.Sign(d) == 0 || bigint.Bits(d) > 1000 {
			continue
		}
		want := limbs(false, d.Mag[:]...)
		a, b := product(t, d, limbs(false, 6000)), product(t, d, limbs(true, 5999))
		if x := bigint.Gcd(a, b); x != want {
			t.Errorf("Gcd of 6000 and 5999 times %s is %s", show(d), show(x))
		}
	}
}
