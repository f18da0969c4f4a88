package bigint_test

import (
	"testing"

	"fundadmin/api"
	"fundadmin/bigint"
)

// The tests of this file are of P1.6. They judge the functions by each other, not by math/big.

// TestCommutative also holds errors against each other.
func TestCommutative(t *testing.T) {
	for _, a := range samples() {
		for _, b := range samples() {
			x, e := bigint.Add(a, b)
			if y, f := bigint.Add(b, a); x != y || e != f {
				t.Errorf("%s + %s: %s, error %d; the other way round: %s, error %d", show(a), show(b), show(x), e, show(y), f)
			}
			x, e = bigint.Mul(a, b)
			if y, f := bigint.Mul(b, a); x != y || e != f {
				t.Errorf("%s * %s: %s, error %d; the other way round: %s, error %d", show(a), show(b), show(x), e, show(y), f)
			}
		}
	}
}

// short returns the samples of which three can be multiplied and added without overflow.
func short() []api.Int {
	var l []api.Int
	for _, x := range samples() {
		if bigint.Bits(x) <= 340 {
			l = append(l, x)
		}
	}
	return l
}

func TestAssociativeAndDistributive(t *testing.T) {
	l := short()
	if len(l) < 20 {
		t.Fatalf("only %d short samples", len(l))
	}
	for _, a := range l {
		for _, b := range l {
			for _, c := range l {
				if x, y := sum(t, sum(t, a, b), c), sum(t, a, sum(t, b, c)); x != y {
					t.Errorf("sums of %s, %s and %s: %s, %s", show(a), show(b), show(c), show(x), show(y))
				}
				if x, y := product(t, product(t, a, b), c), product(t, a, product(t, b, c)); x != y {
					t.Errorf("products of %s, %s and %s: %s, %s", show(a), show(b), show(c), show(x), show(y))
				}
				if x, y := product(t, a, sum(t, b, c)), sum(t, product(t, a, b), product(t, a, c)); x != y {
					t.Errorf("%s times the sum of %s and %s: %s, %s", show(a), show(b), show(c), show(x), show(y))
				}
			}
		}
	}
}

func TestSubUndoesAdd(t *testing.T) {
	for _, a := range samples() {
		for _, b := range samples() {
			x, e := bigint.Add(a, b)
			if e != api.OK {
				continue
			}
			if y := difference(t, x, b); y != canonical(a) {
				t.Errorf("%s + %s - %s is %s", show(a), show(b), show(b), show(y))
			}
		}
	}
}

func TestDivModUndoesMul(t *testing.T) {
	for _, a := range samples() {
		for _, b := range samples() {
			x, e := bigint.Mul(a, b)
			if e != api.OK || bigint.Sign(b) == 0 {
				continue
			}
			if q, r, e := bigint.DivMod(x, b); q != canonical(a) || r != zero || e != api.OK {
				t.Errorf("%s * %s / %s is %s, %s, error %d", show(a), show(b), show(b), show(q), show(r), e)
			}
		}
	}
}

func TestParseUndoesFormat(t *testing.T) {
	for _, x := range samples() {
		if y, e := bigint.Parse(bigint.Format(x)); y != canonical(x) || e != api.OK {
			t.Errorf("%s comes back as %s, error %d", show(x), show(y), e)
		}
	}
}

// multiples returns u and v for which u * a + v * b is the last remainder above 0 of Euclid's algorithm.
func multiples(t *testing.T, a, b api.Int) (u, v api.Int) {
	t.Helper()
	u, v = bigint.FromInt(1), zero
	nextU, nextV := zero, bigint.FromInt(1)
	for bigint.Sign(b) != 0 {
		q, r, e := bigint.DivMod(a, b)
		if e != api.OK {
			t.Fatalf("DivMod(%s, %s): error %d", show(a), show(b), e)
		}
		a, b = b, r
		u, nextU = nextU, difference(t, u, product(t, q, nextU))
		v, nextV = nextV, difference(t, v, product(t, q, nextV))
	}
	return u, v
}

func TestGcdIsASumOfMultiples(t *testing.T) {
	l := short()
	for _, a := range l {
		for _, b := range l {
			g := bigint.Gcd(a, b)
			u, v := multiples(t, a, b)
			x := sum(t, product(t, u, a), product(t, v, b))
			if x != g && x != bigint.Neg(g) {
				t.Errorf("Gcd(%s, %s) is %s, but a sum of multiples is %s", show(a), show(b), show(g), show(x))
			}
		}
	}
}

func TestGcdDividesBoth(t *testing.T) {
	for _, a := range samples() {
		for _, b := range samples() {
			g := bigint.Gcd(a, b)
			if bigint.Sign(g) == 0 {
				if bigint.Sign(a) != 0 || bigint.Sign(b) != 0 {
					t.Errorf("Gcd(%s, %s) is 0", show(a), show(b))
				}
				continue
			}
			for _, x := range []api.Int{a, b} {
				if _, r, e := bigint.DivMod(x, g); r != zero || e != api.OK {
					t.Errorf("Gcd(%s, %s) is %s, which leaves %s, error %d", show(a), show(b), show(g), show(r), e)
				}
			}
		}
	}
}

// TestEqual holds that canonical numbers are equal by == if and only if Cmp finds them equal.
func TestEqual(t *testing.T) {
	for _, a := range samples() {
		for _, b := range samples() {
			a, b := canonical(a), canonical(b)
			if (a == b) != (bigint.Cmp(a, b) == 0) {
				t.Errorf("%s and %s: Cmp is %d", show(a), show(b), bigint.Cmp(a, b))
			}
		}
	}
}
