package ratio_test

import (
	"math"
	"math/big"
	"testing"

	"fundadmin/api"
	"fundadmin/ratio"
	"fundadmin/sample"
)

// TestValid is of P2.1.
func TestValid(t *testing.T) {
	for _, r := range samples() {
		if !ratio.Valid(r) {
			t.Errorf("%s is valid", show(r))
		}
	}
	for _, c := range sample.Invalid() {
		if ratio.Valid(c.R) {
			t.Errorf("%s is not valid", c.Why)
		}
	}
}

// TestMakeAndOf is of P2.1: parts that are ints.
func TestMakeAndOf(t *testing.T) {
	for _, c := range []struct {
		n, d  int
		want  api.Ratio
		wrong api.Errno
	}{
		{6, -4, frac(-3, 2), api.OK}, {6, 4, frac(3, 2), api.OK}, {-6, 4, frac(-3, 2), api.OK}, {-6, -4, frac(3, 2), api.OK},
		{1, 3, frac(1, 3), api.OK}, {7, 1, frac(7, 1), api.OK}, {7, -1, frac(-7, 1), api.OK}, {-5, -5, frac(1, 1), api.OK}, {3, 12, frac(1, 4), api.OK}, {12, 3, frac(4, 1), api.OK},
		{0, 1, frac(0, 1), api.OK}, {0, 9, frac(0, 1), api.OK}, {0, -9, frac(0, 1), api.OK}, {0, math.MinInt, frac(0, 1), api.OK},
		{0, 0, none, api.ErrZero}, {1, 0, none, api.ErrZero}, {-1, 0, none, api.ErrZero}, {math.MinInt, 0, none, api.ErrZero},
		{math.MinInt, math.MinInt, frac(1, 1), api.OK}, {math.MinInt, 1, frac(math.MinInt, 1), api.OK}, {math.MinInt, 6, frac(math.MinInt/2, 3), api.OK},
		{math.MinInt, -1, parts(power(63), one), api.OK}, {1, math.MinInt, parts(negative(one), power(63)), api.OK}, {-1, math.MinInt, parts(one, power(63)), api.OK},
		{math.MaxInt, math.MinInt, parts(negative(ones(63)), power(63)), api.OK}, {math.MaxInt, math.MaxInt - 1, frac(math.MaxInt, math.MaxInt-1), api.OK},
	} {
		r, e := ratio.Of(c.n, c.d)
		expect(t, "Of "+show(frac(c.n, c.d)), r, e, c.want, c.wrong)
		r, e = ratio.Make(whole(c.n), whole(c.d))
		expect(t, "Make "+show(frac(c.n, c.d)), r, e, c.want, c.wrong)
	}
}

// TestMakeOfLongNumbers is of P2.1: what decides is the length of the parts after they are reduced.
func TestMakeOfLongNumbers(t *testing.T) {
	for _, c := range []struct {
		num, den api.Int
		want     api.Ratio
		wrong    api.Errno
	}{
		{power(1000), power(999), frac(2, 1), api.OK}, {power(999), negative(power(1000)), frac(-1, 2), api.OK},
		{power(1023), power(1023 - 479), parts(power(479), one), api.OK}, {power(1023), power(1023 - 480), none, api.ErrOverflow},
		{power(1023 - 479), power(1023), parts(one, power(479)), api.OK}, {power(1023 - 480), power(1023), none, api.ErrOverflow},
		{ones(1024), ones(1024), frac(1, 1), api.OK}, {ones(1024), negative(ones(1024)), frac(-1, 1), api.OK}, {negative(ones(1024)), negative(ones(1024)), frac(1, 1), api.OK},
		{ones(480), one, parts(ones(480), one), api.OK}, {negative(ones(480)), one, parts(negative(ones(480)), one), api.OK},
		{one, ones(480), parts(one, ones(480)), api.OK}, {one, negative(ones(480)), parts(negative(one), ones(480)), api.OK},
		{power(480), one, none, api.ErrOverflow}, {negative(power(480)), one, none, api.ErrOverflow}, {power(480), whole(3), none, api.ErrOverflow}, {power(480), whole(6), parts(power(479), whole(3)), api.OK},
		{one, power(480), none, api.ErrOverflow}, {one, negative(power(480)), none, api.ErrOverflow}, {whole(3), power(480), none, api.ErrOverflow},
		{power(480), ones(481), none, api.ErrOverflow}, {ones(1024), one, none, api.ErrOverflow}, {negative(one), ones(1024), none, api.ErrOverflow},
		{whole(0), ones(1024), frac(0, 1), api.OK}, {whole(0), negative(ones(1024)), frac(0, 1), api.OK},
		{minusZero, whole(3), frac(0, 1), api.OK}, {minusZero, whole(-3), frac(0, 1), api.OK}, {minusZero, one, frac(0, 1), api.OK},
		{whole(3), minusZero, none, api.ErrZero}, {minusZero, minusZero, none, api.ErrZero}, {whole(0), minusZero, none, api.ErrZero}, {minusZero, whole(0), none, api.ErrZero},
		{ones(1024), whole(0), none, api.ErrZero}, {power(480), minusZero, none, api.ErrZero},
	} {
		r, e := ratio.Make(c.num, c.den)
		expect(t, "Make "+show(parts(c.num, c.den)), r, e, c.want, c.wrong)
	}
}

// TestMakeReduces is of P2.1: common factors of all lengths and both signs.
func TestMakeReduces(t *testing.T) {
	factors := []api.Int{one, whole(-1), whole(2), whole(-6), power(64), ones(200), negative(power(300)), ones(544), negative(ones(544))}
	for _, r := range samples() {
		for _, factor := range factors {
			num := fromBig(new(big.Int).Mul(toBig(r.Num), toBig(factor)))
			den := fromBig(new(big.Int).Mul(toBig(r.Den), toBig(factor)))
			x, e := ratio.Make(num, den)
			expect(t, "Make "+show(parts(num, den)), x, e, r, api.OK)
		}
	}
}

// TestWhole is of P2.1.
func TestWhole(t *testing.T) {
	for _, n := range []int{0, 1, -1, 2, -9, 1 << 32, math.MaxInt, math.MinInt} {
		expect(t, "Whole", ratio.Whole(n), api.OK, frac(n, 1), api.OK)
	}
}

// TestParts is of P2.3: Neg, Abs, Sign and Floor, with floors of both signs.
func TestParts(t *testing.T) {
	half := parts(ones(480), whole(2)) // 2^479 - 1/2
	for _, c := range []struct {
		r, neg, abs api.Ratio
		sign        int
		floor       api.Int
	}{
		{frac(0, 1), frac(0, 1), frac(0, 1), 0, whole(0)},
		{frac(3, 2), frac(-3, 2), frac(3, 2), 1, whole(1)}, {frac(-3, 2), frac(3, 2), frac(3, 2), -1, whole(-2)},
		{frac(4, 1), frac(-4, 1), frac(4, 1), 1, whole(4)}, {frac(-4, 1), frac(4, 1), frac(4, 1), -1, whole(-4)},
		{frac(1, 1), frac(-1, 1), frac(1, 1), 1, whole(1)}, {frac(-1, 1), frac(1, 1), frac(1, 1), -1, whole(-1)},
		{frac(1, 1000), frac(-1, 1000), frac(1, 1000), 1, whole(0)}, {frac(-1, 1000), frac(1, 1000), frac(1, 1000), -1, whole(-1)},
		{frac(999, 1000), frac(-999, 1000), frac(999, 1000), 1, whole(0)}, {frac(-999, 1000), frac(999, 1000), frac(999, 1000), -1, whole(-1)},
		{frac(7, 3), frac(-7, 3), frac(7, 3), 1, whole(2)}, {frac(-7, 3), frac(7, 3), frac(7, 3), -1, whole(-3)},
		{parts(ones(480), one), parts(negative(ones(480)), one), parts(ones(480), one), 1, ones(480)},
		{parts(negative(ones(480)), one), parts(ones(480), one), parts(ones(480), one), -1, negative(ones(480))},
		{parts(one, ones(480)), parts(negative(one), ones(480)), parts(one, ones(480)), 1, whole(0)},
		{parts(negative(one), ones(480)), parts(one, ones(480)), parts(one, ones(480)), -1, whole(-1)},
		{half, parts(negative(half.Num), half.Den), half, 1, ones(479)}, {parts(negative(half.Num), half.Den), half, half, -1, negative(power(479))},
	} {
		r, e := ratio.Neg(c.r)
		expect(t, "Neg of "+show(c.r), r, e, c.neg, api.OK)
		r, e = ratio.Abs(c.r)
		expect(t, "Abs of "+show(c.r), r, e, c.abs, api.OK)
		if n, e := ratio.Sign(c.r); n != c.sign || e != api.OK {
			t.Errorf("Sign of %s is %d, error %d", show(c.r), n, e)
		}
		if x, e := ratio.Floor(c.r); x != c.floor || e != api.OK {
			t.Errorf("Floor of %s is %s, error %d", show(c.r), showInt(x), e)
		}
	}
}

// TestPartsOfSamples is of P2.3: the same functions against math/big.
func TestPartsOfSamples(t *testing.T) {
	for _, a := range samples() {
		want, _ := fromRat(new(big.Rat).Neg(toRat(a)))
		r, e := ratio.Neg(a)
		expect(t, "Neg of "+show(a), r, e, want, api.OK)
		want, _ = fromRat(new(big.Rat).Abs(toRat(a)))
		r, e = ratio.Abs(a)
		expect(t, "Abs of "+show(a), r, e, want, api.OK)
		if n, e := ratio.Sign(a); n != toRat(a).Sign() || e != api.OK {
			t.Errorf("Sign of %s is %d, error %d", show(a), n, e)
		}
		// The denominator is above 0, for which the Euclidean quotient is the floor.
		floor := new(big.Int).Div(toBig(a.Num), toBig(a.Den))
		if x, e := ratio.Floor(a); x != fromBig(floor) || e != api.OK {
			t.Errorf("Floor of %s is %s, error %d", show(a), showInt(x), e)
		}
	}
}

// TestPartsOfInvalid is of P2.3.
func TestPartsOfInvalid(t *testing.T) {
	for _, c := range sample.Invalid() {
		r, e := ratio.Neg(c.R)
		expect(t, "Neg of "+c.Why, r, e, none, api.ErrRatio)
		r, e = ratio.Abs(c.R)
		expect(t, "Abs of "+c.Why, r, e, none, api.ErrRatio)
		if n, e := ratio.Sign(c.R); n != 0 || e != api.ErrRatio {
			t.Errorf("Sign of %s is %d, error %d", c.Why, n, e)
		}
		if x, e := ratio.Floor(c.R); x != (api.Int{}) || e != api.ErrRatio {
			t.Errorf("Floor of %s is %s, error %d", c.Why, showInt(x), e)
		}
	}
}

// TestCmp is of P2.3: the ratios of a list that rises, each with each.
func TestCmp(t *testing.T) {
	rising := []api.Ratio{
		parts(negative(ones(480)), one), parts(negative(power(479)), one), frac(-7, 2), frac(-10, 3), frac(-1, 1), frac(-1, 2), frac(-1, 3), parts(negative(one), power(479)), parts(negative(one), ones(480)),
		frac(0, 1), parts(one, ones(480)), parts(one, power(479)), frac(1, 1000), frac(333, 1000), frac(1, 3), frac(1, 2),
		// Neighbours whose products differ by 1, and have 958 bits.
		parts(before(ones(479)), ones(479)), parts(ones(479), power(479)), parts(before(ones(480)), ones(480)), frac(1, 1), parts(power(479), ones(479)), frac(10, 7), frac(3, 2),
		parts(power(479), whole(3)), parts(power(479), one), parts(ones(480), one),
	}
	for i, a := range rising {
		for j, b := range rising {
			want := 0
			if i < j {
				want = -1
			} else if i > j {
				want = 1
			}
			if n, e := ratio.Cmp(a, b); n != want || e != api.OK {
				t.Errorf("Cmp of %s and %s is %d, error %d", show(a), show(b), n, e)
			}
		}
	}
}

// TestCmpOfSamples is of P2.3: all pairs, against math/big.
func TestCmpOfSamples(t *testing.T) {
	for _, a := range samples() {
		for _, b := range samples() {
			if n, e := ratio.Cmp(a, b); n != toRat(a).Cmp(toRat(b)) || e != api.OK {
				t.Errorf("Cmp of %s and %s is %d, error %d", show(a), show(b), n, e)
			}
		}
	}
}

// TestCmpOfInvalid is of P2.3: in either position and in both.
func TestCmpOfInvalid(t *testing.T) {
	for _, c := range sample.Invalid() {
		for _, pair := range [][2]api.Ratio{{c.R, frac(1, 2)}, {frac(1, 2), c.R}, {c.R, frac(0, 1)}, {frac(0, 1), c.R}, {c.R, c.R}} {
			if n, e := ratio.Cmp(pair[0], pair[1]); n != 0 || e != api.ErrRatio {
				t.Errorf("%s: Cmp of %s and %s is %d, error %d", c.Why, show(pair[0]), show(pair[1]), n, e)
			}
		}
	}
}
