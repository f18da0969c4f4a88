package bigint_test

import (
	"cmp"
	"math"
	"testing"

	"fundadmin/api"
	"fundadmin/bigint"
)

// TestInts is of P1.1: FromInt and ToInt.
func TestInts(t *testing.T) {
	for _, c := range []struct {
		n int
		x api.Int
	}{
		{0, zero}, {1, limbs(false, 1)}, {-1, limbs(true, 1)}, {1234567, limbs(false, 1234567)},
		{math.MaxUint32, limbs(false, math.MaxUint32)}, {-math.MaxUint32, limbs(true, math.MaxUint32)},
		{1 << 32, limbs(false, 0, 1)}, {-1 << 32, limbs(true, 0, 1)}, {1<<33 + 7, limbs(false, 7, 2)},
		{math.MaxInt, limbs(false, math.MaxUint32, math.MaxInt32)},
		{-math.MaxInt, limbs(true, math.MaxUint32, math.MaxInt32)},
		{math.MinInt, limbs(true, 0, 1<<31)},
	} {
		if x := bigint.FromInt(c.n); x != c.x {
			t.Errorf("FromInt(%d) is %s", c.n, show(x))
		}
		if n, ok := bigint.ToInt(c.x); n != c.n || !ok {
			t.Errorf("ToInt of %d is %d, %v", c.n, n, ok)
		}
	}
	if n, ok := bigint.ToInt(minusZero); n != 0 || !ok {
		t.Errorf("ToInt of minus zero is %d, %v", n, ok)
	}
}

// TestIntsThatDoNotFit is of P1.1: ToInt beyond the least and the greatest int.
func TestIntsThatDoNotFit(t *testing.T) {
	for _, x := range []api.Int{
		limbs(false, 0, 1<<31), limbs(true, 1, 1<<31), limbs(false, math.MaxUint32, math.MaxUint32), limbs(true, math.MaxUint32, math.MaxUint32),
		power(64), limbs(false, 5, 0, 1), limbs(true, 0, 1<<31, 1), limbs(true, 5, 0, 1), power(96), power(1023), greatest(), least(),
	} {
		if n, ok := bigint.ToInt(x); n != 0 || ok {
			t.Errorf("ToInt of %s is %d, %v", show(x), n, ok)
		}
	}
}

// TestBits is of P1.1.
func TestBits(t *testing.T) {
	for _, x := range []api.Int{zero, minusZero} {
		if n := bigint.Bits(x); n != 0 {
			t.Errorf("Bits of %s is %d", show(x), n)
		}
	}
	for i := range 1024 {
		x := power(i)
		if n := bigint.Bits(x); n != i+1 {
			t.Errorf("Bits of 2^%d is %d", i, n)
		}
		if n := bigint.Bits(bigint.Neg(x)); n != i+1 {
			t.Errorf("Bits of -2^%d is %d", i, n)
		}
	}
	for _, x := range samples() {
		if n := bigint.Bits(x); n != toBig(x).BitLen() {
			t.Errorf("Bits of %s is %d", show(x), n)
		}
	}
}

// TestSign is of P1.1.
func TestSign(t *testing.T) {
	for _, c := range []struct {
		x    api.Int
		sign int
	}{
		{zero, 0}, {minusZero, 0}, {limbs(false, 1), 1}, {limbs(true, 1), -1}, {power(32), 1}, {bigint.Neg(power(32)), -1}, {power(1023), 1}, {greatest(), 1}, {least(), -1},
	} {
		if n := bigint.Sign(c.x); n != c.sign {
			t.Errorf("Sign of %s is %d", show(c.x), n)
		}
	}
}

// TestCmp is of P1.1: the numbers of a list that rises, each with each.
func TestCmp(t *testing.T) {
	rising := []api.Int{
		least(), limbs(true, 0, 0, 2), limbs(true, 0, 1, 1), limbs(true, 9, 0, 1), limbs(true, 5, 0, 1), limbs(true, 4, 0, 1), limbs(true, 7), limbs(true, 1),
		zero, limbs(false, 1), limbs(false, 7), limbs(false, math.MaxUint32), limbs(false, 4, 1), limbs(false, 5, 1), limbs(false, 0, 2), power(1023), greatest(),
	}
	for i, a := range rising {
		for j, b := range rising {
			if n := bigint.Cmp(a, b); n != cmp.Compare(i, j) {
				t.Errorf("Cmp(%s, %s) is %d", show(a), show(b), n)
			}
		}
	}
	for _, a := range []api.Int{zero, minusZero} {
		for _, b := range []api.Int{zero, minusZero} {
			if n := bigint.Cmp(a, b); n != 0 {
				t.Errorf("Cmp(%s, %s) is %d", show(a), show(b), n)
			}
		}
	}
	for _, a := range samples() {
		for _, b := range samples() {
			if n := bigint.Cmp(a, b); n != toBig(a).Cmp(toBig(b)) {
				t.Errorf("Cmp(%s, %s) is %d", show(a), show(b), n)
			}
		}
	}
}

// TestNeg is of P1.1.
func TestNeg(t *testing.T) {
	for _, c := range []struct{ x, want api.Int }{
		{zero, zero}, {minusZero, zero}, {limbs(false, 7), limbs(true, 7)}, {limbs(true, 7), limbs(false, 7)}, {greatest(), least()}, {least(), greatest()},
	} {
		if x := bigint.Neg(c.x); x != c.want {
			t.Errorf("Neg of %s is %s", show(c.x), show(x))
		}
	}
}
