package decimal_test

import (
	"math/big"
	"slices"
	"strconv"
	"testing"

	"fundadmin/api"
	"fundadmin/bigint"
	"fundadmin/decimal"
	"fundadmin/ratio"
)

// The tests of this file are of P3.6. They judge the functions by each other and by the ratios, not by what a mode means.

// round is Round for valid arguments.
func round(t *testing.T, r api.Ratio, places, mode int) api.Int {
	t.Helper()
	x, e := decimal.Round(r, places, mode)
	if e != api.OK {
		t.Fatalf("Round(%s, %d, %d): error %d", show(r), places, mode, e)
	}
	return x
}

// TestDistance holds that nothing is rounded by 1 or more, to the nearest not by more than 1/2, and by Floor and Ceil to one side.
func TestDistance(t *testing.T) {
	one, half := big.NewRat(1, 1), big.NewRat(1, 2)
	for _, r := range samples(t) {
		for places := range 10 {
			for _, mode := range modes {
				number := new(big.Rat).SetInt(toBig(round(t, r, places, mode)))
				difference := number.Sub(number, times(r, places))
				if mode == api.Floor && difference.Sign() > 0 || mode == api.Ceil && difference.Sign() < 0 {
					t.Errorf("Round(%s, %d, %d) is on the wrong side", show(r), places, mode)
				}
				distance := new(big.Rat).Abs(difference)
				if distance.Cmp(one) >= 0 || (mode == api.HalfUp || mode == api.HalfEven) && distance.Cmp(half) > 0 {
					t.Errorf("Round(%s, %d, %d) is off by %s", show(r), places, mode, distance)
				}
			}
		}
	}
}

// TestFloorAndCeil holds that they are equal exactly if Exact holds, and that all modes are then.
func TestFloorAndCeil(t *testing.T) {
	count := map[bool]int{}
	for _, r := range samples(t) {
		for places := range 10 {
			exact, e := decimal.Exact(r, places)
			floor, ceil := round(t, r, places, api.Floor), round(t, r, places, api.Ceil)
			if (floor == ceil) != exact || e != api.OK {
				t.Errorf("Exact(%s, %d) is %v, error %d; Floor and Ceil are %s and %s", show(r), places, exact, e, bigint.Format(floor), bigint.Format(ceil))
			}
			for _, mode := range modes {
				if x := round(t, r, places, mode); x != floor && x != ceil {
					t.Errorf("Round(%s, %d, %d) is %s", show(r), places, mode, bigint.Format(x))
				}
			}
			count[exact]++
		}
	}
	if count[true] < 500 || count[false] < 500 {
		t.Errorf("too few of a kind: %v", count)
	}
}

// TestMonotone holds that the order of two ratios is never turned.
func TestMonotone(t *testing.T) {
	l := samples(t)
	slices.SortFunc(l, func(a, b api.Ratio) int {
		n, _ := ratio.Cmp(a, b)
		return n
	})
	for places := range 10 {
		for _, mode := range modes {
			last := round(t, l[0], places, mode)
			for _, r := range l {
				x := round(t, r, places, mode)
				if bigint.Cmp(last, x) > 0 {
					t.Errorf("Round(%s, %d, %d) is below that of a smaller ratio", show(r), places, mode)
				}
				last = x
			}
		}
	}
}

// TestSymmetric holds that Floor and Ceil are mirrored by each other, and the other modes by themselves.
func TestSymmetric(t *testing.T) {
	mirrored := map[int]int{api.Floor: api.Ceil, api.Ceil: api.Floor, api.Down: api.Down, api.Up: api.Up, api.HalfUp: api.HalfUp, api.HalfEven: api.HalfEven}
	for _, r := range samples(t) {
		for places := range 10 {
			for mode, other := range mirrored {
				if x, y := round(t, minus(t, r), places, mode), round(t, r, places, other); x != bigint.Neg(y) {
					t.Errorf("of %s with %d places: %s by mode %d, %s by mode %d for its negative", show(r), places, bigint.Format(y), other, bigint.Format(x), mode)
				}
			}
		}
	}
}

// TestIdempotent holds that Quantize leaves alone what it returns, in every mode and with more places.
func TestIdempotent(t *testing.T) {
	quantized := 0
	for _, r := range samples(t) {
		for places := range 10 {
			for _, mode := range modes {
				x, e := decimal.Quantize(r, places, mode)
				if e == api.ErrOverflow {
					continue
				}
				quantized++
				for _, again := range modes {
					expectQuantize(t, x, places, again, x, api.OK)
				}
				expectQuantize(t, x, 9, mode, x, api.OK)
			}
		}
	}
	if quantized < 5000 {
		t.Errorf("only %d without an overflow", quantized)
	}
}

// TestTextAndBack holds that Parse undoes Text, and Percent undoes PercentText.
func TestTextAndBack(t *testing.T) {
	texts, percentages := 0, 0
	for _, r := range samples(t) {
		for places := range 10 {
			if s, e := decimal.Text(r, places); e == api.OK {
				texts++
				expectParse(t, s, places, r, api.OK)
			}
		}
		if s, e := decimal.PercentText(r); e == api.OK {
			percentages++
			expectPercent(t, s, r, api.OK)
		}
	}
	if texts < 500 || percentages < 50 {
		t.Errorf("only %d texts and %d percentages", texts, percentages)
	}
}

// TestTextIsShortest holds that Text undoes Parse but for zeros at the end, which Format writes.
func TestTextIsShortest(t *testing.T) {
	for places := range 10 {
		for n := -100000; n < 100000; n += 37 {
			s, e := decimal.Format(n, places)
			if e != api.OK {
				t.Fatalf("Format(%d, %d): error %d", n, places, e)
			}
			r, e := decimal.Parse(s, places)
			if e != api.OK {
				t.Fatalf("Parse(%q, %d): error %d", s, places, e)
			}
			short, e := decimal.Text(r, places)
			if e != api.OK || len(short) > len(s) {
				t.Errorf("Text(%s, %d) is %q, error %d", show(r), places, short, e)
			}
			expectParse(t, short, places, r, api.OK)
			expectRound(t, r, places, api.Floor, bigint.FromInt(n))
			if number, e := strconv.ParseFloat(short, 64); number != float64(n)/float64(ten(places).Int64()) || e != nil {
				t.Errorf("Text(%s, %d) is %q", show(r), places, short)
			}
		}
	}
}
