package ratio_test

import (
	"math/big"
	"slices"
	"testing"

	"fundadmin/api"
	"fundadmin/ratio"
	"fundadmin/sample"
)

// TestOperations is of P2.2, written out: signs, zeros and results that are to be reduced.
func TestOperations(t *testing.T) {
	for _, c := range []struct {
		name string
		do   func(a, b api.Ratio) (api.Ratio, api.Errno)
		a, b api.Ratio
		want api.Ratio
	}{
		{"Add", ratio.Add, frac(1, 3), frac(1, 6), frac(1, 2)}, {"Add", ratio.Add, frac(1, 2), frac(1, 3), frac(5, 6)}, {"Add", ratio.Add, frac(-5, 4), frac(1, 6), frac(-13, 12)},
		{"Add", ratio.Add, frac(1, 2), frac(-1, 2), frac(0, 1)}, {"Add", ratio.Add, frac(0, 1), frac(0, 1), frac(0, 1)}, {"Add", ratio.Add, frac(-2, 3), frac(0, 1), frac(-2, 3)},
		{"Sub", ratio.Sub, frac(1, 3), frac(1, 2), frac(-1, 6)}, {"Sub", ratio.Sub, frac(1, 2), frac(1, 3), frac(1, 6)}, {"Sub", ratio.Sub, frac(1, 2), frac(-1, 2), frac(1, 1)},
		{"Sub", ratio.Sub, frac(3, 4), frac(3, 4), frac(0, 1)}, {"Sub", ratio.Sub, frac(0, 1), frac(-2, 7), frac(2, 7)}, {"Sub", ratio.Sub, frac(0, 1), frac(0, 1), frac(0, 1)},
		{"Mul", ratio.Mul, frac(-2, 3), frac(9, 4), frac(-3, 2)}, {"Mul", ratio.Mul, frac(-2, 3), frac(-9, 4), frac(3, 2)}, {"Mul", ratio.Mul, frac(2, 3), frac(3, 2), frac(1, 1)},
		{"Mul", ratio.Mul, frac(0, 1), frac(-9, 4), frac(0, 1)}, {"Mul", ratio.Mul, frac(-9, 4), frac(0, 1), frac(0, 1)}, {"Mul", ratio.Mul, frac(0, 1), frac(0, 1), frac(0, 1)},
		{"Quo", ratio.Quo, frac(1, 3), frac(-2, 9), frac(-3, 2)}, {"Quo", ratio.Quo, frac(-1, 3), frac(-2, 9), frac(3, 2)}, {"Quo", ratio.Quo, frac(-1, 3), frac(2, 9), frac(-3, 2)},
		{"Quo", ratio.Quo, frac(0, 1), frac(-2, 9), frac(0, 1)}, {"Quo", ratio.Quo, frac(-4, 5), frac(-4, 5), frac(1, 1)}, {"Quo", ratio.Quo, frac(1, 1), frac(-7, 2), frac(-2, 7)},
	} {
		r, e := c.do(c.a, c.b)
		expect(t, c.name+" of "+show(c.a)+" and "+show(c.b), r, e, c.want, api.OK)
	}
}

// TestOperationsOfSamples is of P2.2: all pairs against math/big, with those that overflow.
func TestOperationsOfSamples(t *testing.T) {
	computes := []func(z, a, b *big.Rat) *big.Rat{(*big.Rat).Add, (*big.Rat).Sub, (*big.Rat).Mul, (*big.Rat).Quo}
	for i, f := range operations() {
		count := map[api.Errno]int{}
		for _, a := range samples() {
			for _, b := range samples() {
				want, wrong := none, api.ErrZero
				if f.name != "Quo" || toRat(b).Sign() != 0 {
					want, wrong = fromRat(computes[i](new(big.Rat), toRat(a), toRat(b)))
				}
				count[wrong]++
				r, e := f.do(a, b)
				expect(t, f.name+" of "+show(a)+" and "+show(b), r, e, want, wrong)
			}
		}
		if count[api.OK] < 100 || count[api.ErrOverflow] < 100 {
			t.Errorf("%s: too few pairs of a kind: %v", f.name, count)
		}
	}
}

// TestFit is of P2.2: results of 480 and of 481 bits, and intermediate ones of up to 961.
func TestFit(t *testing.T) {
	long, longest, short, shortest := parts(power(479), one), parts(ones(480), one), parts(one, power(479)), parts(one, ones(480))
	minus := func(r api.Ratio) api.Ratio { return parts(negative(r.Num), r.Den) }
	for _, c := range []struct {
		name  string
		do    func(a, b api.Ratio) (api.Ratio, api.Errno)
		a, b  api.Ratio
		want  api.Ratio
		wrong api.Errno
	}{
		{"Add", ratio.Add, long, parts(ones(479), one), longest, api.OK}, {"Add", ratio.Add, long, long, none, api.ErrOverflow}, {"Add", ratio.Add, longest, frac(1, 1), none, api.ErrOverflow}, {"Add", ratio.Add, longest, frac(1, 2), none, api.ErrOverflow},
		{"Add", ratio.Add, minus(longest), frac(-1, 1), none, api.ErrOverflow}, {"Add", ratio.Add, minus(long), long, frac(0, 1), api.OK}, {"Add", ratio.Add, short, frac(1, 3), none, api.ErrOverflow}, {"Add", ratio.Add, short, short, parts(one, power(478)), api.OK},
		{"Add", ratio.Add, parts(ones(480), power(479)), parts(one, power(479)), frac(2, 1), api.OK}, {"Add", ratio.Add, long, short, none, api.ErrOverflow}, {"Add", ratio.Add, shortest, minus(shortest), frac(0, 1), api.OK},
		{"Sub", ratio.Sub, minus(long), parts(ones(479), one), minus(longest), api.OK}, {"Sub", ratio.Sub, minus(long), long, none, api.ErrOverflow}, {"Sub", ratio.Sub, minus(longest), frac(1, 1), none, api.ErrOverflow},
		{"Sub", ratio.Sub, long, long, frac(0, 1), api.OK}, {"Sub", ratio.Sub, frac(1, 3), short, none, api.ErrOverflow}, {"Sub", ratio.Sub, shortest, shortest, frac(0, 1), api.OK}, {"Sub", ratio.Sub, frac(1, 1), short, parts(ones(479), power(479)), api.OK},
		{"Mul", ratio.Mul, long, frac(2, 1), none, api.ErrOverflow}, {"Mul", ratio.Mul, long, frac(1, 2), parts(power(478), one), api.OK}, {"Mul", ratio.Mul, short, frac(1, 2), none, api.ErrOverflow}, {"Mul", ratio.Mul, short, frac(2, 1), parts(one, power(478)), api.OK},
		{"Mul", ratio.Mul, long, short, frac(1, 1), api.OK}, {"Mul", ratio.Mul, longest, shortest, frac(1, 1), api.OK}, {"Mul", ratio.Mul, longest, longest, none, api.ErrOverflow}, {"Mul", ratio.Mul, shortest, shortest, none, api.ErrOverflow},
		{"Mul", ratio.Mul, parts(power(240), one), parts(power(239), one), long, api.OK}, {"Mul", ratio.Mul, parts(power(240), one), parts(power(240), one), none, api.ErrOverflow}, {"Mul", ratio.Mul, minus(long), frac(-2, 1), none, api.ErrOverflow},
		{"Mul", ratio.Mul, longest, short, parts(ones(480), power(479)), api.OK}, {"Mul", ratio.Mul, parts(ones(480), power(479)), parts(power(479), ones(480)), frac(1, 1), api.OK},
		{"Quo", ratio.Quo, long, short, none, api.ErrOverflow}, {"Quo", ratio.Quo, short, long, none, api.ErrOverflow}, {"Quo", ratio.Quo, long, frac(1, 2), none, api.ErrOverflow}, {"Quo", ratio.Quo, short, frac(2, 1), none, api.ErrOverflow},
		{"Quo", ratio.Quo, longest, longest, frac(1, 1), api.OK}, {"Quo", ratio.Quo, frac(1, 1), longest, shortest, api.OK}, {"Quo", ratio.Quo, frac(-1, 1), shortest, minus(longest), api.OK}, {"Quo", ratio.Quo, longest, minus(long), parts(negative(ones(480)), power(479)), api.OK},
	} {
		r, e := c.do(c.a, c.b)
		expect(t, c.name+" of "+show(c.a)+" and "+show(c.b), r, e, c.want, c.wrong)
	}
}

// TestOperationsOfInvalid is of P2.2: in either position and in both, ahead of a division by 0 and of an overflow.
func TestOperationsOfInvalid(t *testing.T) {
	for _, f := range operations() {
		for _, c := range sample.Invalid() {
			for _, r := range []api.Ratio{frac(0, 1), frac(1, 2), frac(2, 1), parts(power(479), one), parts(negative(one), power(479)), c.R} {
				x, e := f.do(c.R, r)
				expect(t, f.name+" of "+c.Why+" and "+show(r), x, e, none, api.ErrRatio)
				x, e = f.do(r, c.R)
				expect(t, f.name+" of "+show(r)+" and "+c.Why, x, e, none, api.ErrRatio)
			}
		}
	}
}

// TestQuoByZero is of P2.2.
func TestQuoByZero(t *testing.T) {
	for _, a := range samples() {
		r, e := ratio.Quo(a, frac(0, 1))
		expect(t, "Quo of "+show(a)+" and 0", r, e, none, api.ErrZero)
	}
}

// TestSum is of P2.4: orders of elements that differ in what comes first, an overflow or an element that is not valid.
func TestSum(t *testing.T) {
	long := parts(power(479), one)
	minusLong := parts(negative(power(479)), one)
	tiny := parts(one, power(479))
	for _, c := range []struct {
		name  string
		l     []api.Ratio
		want  api.Ratio
		wrong api.Errno
	}{
		{"nil", nil, frac(0, 1), api.OK}, {"the empty list", []api.Ratio{}, frac(0, 1), api.OK},
		{"0", []api.Ratio{frac(0, 1)}, frac(0, 1), api.OK}, {"-2/3", []api.Ratio{frac(-2, 3)}, frac(-2, 3), api.OK}, {"the longest", []api.Ratio{parts(ones(480), ones(479))}, parts(ones(480), ones(479)), api.OK},
		{"1/2 + 1/3 + 1/6", []api.Ratio{frac(1, 2), frac(1, 3), frac(1, 6)}, frac(1, 1), api.OK}, {"1/2 + 1/2 + 1/2", []api.Ratio{frac(1, 2), frac(1, 2), frac(1, 2)}, frac(3, 2), api.OK}, {"1 - 1/3 - 2/3", []api.Ratio{frac(1, 1), frac(-1, 3), frac(-2, 3)}, frac(0, 1), api.OK},
		{"an overflow that is undone", []api.Ratio{long, long, minusLong}, none, api.ErrOverflow}, {"the same, not from the left", []api.Ratio{minusLong, long, long}, long, api.OK}, {"the same in the middle", []api.Ratio{long, minusLong, long}, long, api.OK},
		{"an overflow at the end", []api.Ratio{frac(1, 2), frac(1, 2), long, long}, none, api.ErrOverflow}, {"a denominator that overflows", []api.Ratio{tiny, frac(1, 3), frac(-1, 3)}, none, api.ErrOverflow}, {"the same, not from the left", []api.Ratio{frac(1, 3), frac(-1, 3), tiny}, tiny, api.OK},
		{"not valid ahead of an overflow", []api.Ratio{long, frac(2, 4), long, long}, none, api.ErrRatio}, {"an overflow ahead of not valid", []api.Ratio{long, long, none}, none, api.ErrOverflow}, {"not valid after a sum that would overflow next", []api.Ratio{long, none, long}, none, api.ErrRatio},
	} {
		r, e := ratio.Sum(c.l)
		expect(t, "Sum of "+c.name, r, e, c.want, c.wrong)
	}
}

// TestSumOfInvalid is of P2.4: an element that is not valid in each position.
func TestSumOfInvalid(t *testing.T) {
	for _, c := range sample.Invalid() {
		for i := range 4 {
			l := []api.Ratio{frac(1, 2), frac(1, 3), frac(-5, 6)}
			r, e := ratio.Sum(slices.Insert(l, i, c.R))
			expect(t, "Sum with "+c.Why, r, e, none, api.ErrRatio)
		}
		r, e := ratio.Sum([]api.Ratio{c.R})
		expect(t, "Sum of "+c.Why, r, e, none, api.ErrRatio)
	}
}

// TestSumFromTheLeft is of P2.4: each sum is that of the list before it and the last element, and the list stays as it was.
func TestSumFromTheLeft(t *testing.T) {
	for _, l := range [][]api.Ratio{random(60, 30), samples(), slices.Repeat([]api.Ratio{frac(1, 7)}, 1000)} {
		copied := slices.Clone(l)
		want, wrong := frac(0, 1), api.OK
		for i := range l {
			if wrong == api.OK {
				want, wrong = ratio.Add(want, l[i])
			}
			r, e := ratio.Sum(l[:i+1])
			expect(t, "Sum", r, e, want, wrong)
		}
		if !slices.Equal(l, copied) {
			t.Error("Sum has changed its argument")
		}
	}
}
