package decimal_test

import (
	"math"
	"math/big"
	"testing"

	"fundadmin/api"
	"fundadmin/bigint"
	"fundadmin/decimal"
	"fundadmin/sample"
)

// TestRound is of P3.1, written out: the results by Down, Up, Floor, Ceil, HalfUp and HalfEven.
func TestRound(t *testing.T) {
	for _, c := range []struct {
		r      string
		places int
		want   [6]int
	}{
		{"0", 0, [6]int{}}, {"0", 9, [6]int{}}, {"4", 0, [6]int{4, 4, 4, 4, 4, 4}}, {"-4", 0, [6]int{-4, -4, -4, -4, -4, -4}}, {"5", 0, [6]int{5, 5, 5, 5, 5, 5}}, {"-5", 2, [6]int{-500, -500, -500, -500, -500, -500}},
		{"1/2", 0, [6]int{0, 1, 0, 1, 1, 0}}, {"-1/2", 0, [6]int{0, -1, -1, 0, -1, 0}}, {"3/2", 0, [6]int{1, 2, 1, 2, 2, 2}}, {"-3/2", 0, [6]int{-1, -2, -2, -1, -2, -2}},
		{"5/2", 0, [6]int{2, 3, 2, 3, 3, 2}}, {"-5/2", 0, [6]int{-2, -3, -3, -2, -3, -2}}, {"7/2", 0, [6]int{3, 4, 3, 4, 4, 4}}, {"-7/2", 0, [6]int{-3, -4, -4, -3, -4, -4}},
		{"2.499999999999", 0, [6]int{2, 3, 2, 3, 2, 2}}, {"-2.499999999999", 0, [6]int{-2, -3, -3, -2, -2, -2}}, {"2.500000000001", 0, [6]int{2, 3, 2, 3, 3, 3}}, {"-2.500000000001", 0, [6]int{-2, -3, -3, -2, -3, -3}},
		{"3.499999999999", 0, [6]int{3, 4, 3, 4, 3, 3}}, {"-3.499999999999", 0, [6]int{-3, -4, -4, -3, -3, -3}}, {"3.500000000001", 0, [6]int{3, 4, 3, 4, 4, 4}}, {"-3.500000000001", 0, [6]int{-3, -4, -4, -3, -4, -4}},
		{"2.999999999999", 0, [6]int{2, 3, 2, 3, 3, 3}}, {"-2.999999999999", 0, [6]int{-2, -3, -3, -2, -3, -3}}, {"3.000000000001", 0, [6]int{3, 4, 3, 4, 3, 3}}, {"-3.000000000001", 0, [6]int{-3, -4, -4, -3, -3, -3}},
		{"0.000000000001", 0, [6]int{0, 1, 0, 1, 0, 0}}, {"-0.000000000001", 0, [6]int{0, -1, -1, 0, 0, 0}}, {"0.999999999999", 0, [6]int{0, 1, 0, 1, 1, 1}}, {"-0.999999999999", 0, [6]int{0, -1, -1, 0, -1, -1}},
		{"1/3", 0, [6]int{0, 1, 0, 1, 0, 0}}, {"-1/3", 0, [6]int{0, -1, -1, 0, 0, 0}}, {"2/3", 0, [6]int{0, 1, 0, 1, 1, 1}}, {"-2/3", 0, [6]int{0, -1, -1, 0, -1, -1}},
		{"1/3", 4, [6]int{3333, 3334, 3333, 3334, 3333, 3333}}, {"-2/3", 9, [6]int{-666666666, -666666667, -666666667, -666666666, -666666667, -666666667}},
		{"0.125", 2, [6]int{12, 13, 12, 13, 13, 12}}, {"-0.375", 2, [6]int{-37, -38, -38, -37, -38, -38}}, {"0.0000000005", 9, [6]int{0, 1, 0, 1, 1, 0}}, {"-0.0000000015", 9, [6]int{-1, -2, -2, -1, -2, -2}},
		{"0.05", 1, [6]int{0, 1, 0, 1, 1, 0}}, {"0.000000001", 9, [6]int{1, 1, 1, 1, 1, 1}}, {"12.345", 3, [6]int{12345, 12345, 12345, 12345, 12345, 12345}},
	} {
		for i, mode := range modes {
			expectRound(t, ratioOf(t, c.r), c.places, mode, bigint.FromInt(c.want[i]))
			n, e := decimal.RoundInt(ratioOf(t, c.r), c.places, mode)
			if n != c.want[i] || e != api.OK {
				t.Errorf("RoundInt(%s, %d, %d) is %d, error %d; not %d", c.r, c.places, mode, n, e, c.want[i])
			}
		}
	}
}

func expectRound(t *testing.T, r api.Ratio, places, mode int, want api.Int) {
	t.Helper()
	x, e := decimal.Round(r, places, mode)
	if x != want || e != api.OK {
		t.Errorf("Round(%s, %d, %d) is %s, error %d; not %s", show(r), places, mode, bigint.Format(x), e, bigint.Format(want))
	}
}

// rounded returns q rounded by the definitions of the modes: by the quotient towards 0, and by how far it is from q.
func rounded(q *big.Rat, mode int) *big.Int {
	towardsZero := new(big.Int).Quo(q.Num(), q.Denom())
	distance := new(big.Rat).Sub(q, new(big.Rat).SetInt(towardsZero))
	sign := distance.Sign()
	away := false
	switch half := distance.Abs(distance).Cmp(big.NewRat(1, 2)); mode {
	case api.Up:
		away = true
	case api.Floor:
		away = sign < 0
	case api.Ceil:
		away = sign > 0
	case api.HalfUp:
		away = half >= 0
	case api.HalfEven:
		away = half > 0 || half == 0 && towardsZero.Bit(0) == 1
	}
	if away {
		towardsZero.Add(towardsZero, big.NewInt(int64(sign)))
	}
	return towardsZero
}

// TestRoundOfSamples is of P3.1 and P3.2: all places and modes against math/big, with results of up to 510 bits.
func TestRoundOfSamples(t *testing.T) {
	count := map[api.Errno]int{}
	for _, r := range samples(t) {
		for places := range 10 {
			for _, mode := range modes {
				want := rounded(times(r, places), mode)
				expectRound(t, r, places, mode, fromBig(t, want))
				quotient, wrong := fromRat(t, new(big.Rat).SetFrac(want, ten(places)))
				expectQuantize(t, r, places, mode, quotient, wrong)
				count[wrong]++
				expectRoundInt(t, r, places, mode, want)
			}
			exact, e := decimal.Exact(r, places)
			if exact != times(r, places).IsInt() || e != api.OK {
				t.Errorf("Exact(%s, %d) is %v, error %d", show(r), places, exact, e)
			}
		}
	}
	if count[api.ErrOverflow] < 20 {
		t.Errorf("only %d overflows", count[api.ErrOverflow])
	}
}

func expectQuantize(t *testing.T, r api.Ratio, places, mode int, want api.Ratio, wrong api.Errno) {
	t.Helper()
	x, e := decimal.Quantize(r, places, mode)
	if x != want || e != wrong {
		t.Errorf("Quantize(%s, %d, %d) is %s, error %d; not %s, error %d", show(r), places, mode, show(x), e, show(want), wrong)
	}
}

func expectRoundInt(t *testing.T, r api.Ratio, places, mode int, number *big.Int) {
	t.Helper()
	want, wrong := 0, api.ErrRange
	if number.CmpAbs(big.NewInt(most)) <= 0 {
		want, wrong = int(number.Int64()), api.OK
	}
	n, e := decimal.RoundInt(r, places, mode)
	if n != want || e != wrong {
		t.Errorf("RoundInt(%s, %d, %d) is %d, error %d; not %d, error %d", show(r), places, mode, n, e, want, wrong)
	}
}

// TestRoundOrderOfErrors is of P3.1 and P3.2: all combinations of what may be wrong with the arguments.
func TestRoundOrderOfErrors(t *testing.T) {
	ratios := append(sample.Invalid(), sample.Broken{Why: "5/2", R: frac(5, 2)}, sample.Broken{Why: "2^479", R: sample.Parts(sample.Power(479), bigint.FromInt(1))})
	for i, c := range ratios {
		for _, places := range []int{math.MinInt, -1, 0, 9, 10, math.MaxInt} {
			for _, mode := range append(around, append(modes, math.MinInt, math.MaxInt)...) {
				wrong := api.OK
				switch {
				case i < len(sample.Invalid()):
					wrong = api.ErrRatio
				case places < 0 || places > 9:
					wrong = api.ErrPlaces
				case mode < 1 || mode > 6:
					wrong = api.ErrMode
				}
				expectErrors(t, c, places, mode, wrong)
			}
		}
	}
}

// expectErrors wants this error, or none of these, of all functions that round.
func expectErrors(t *testing.T, c sample.Broken, places, mode int, wrong api.Errno) {
	t.Helper()
	x, e := decimal.Round(c.R, places, mode)
	n, e2 := decimal.RoundInt(c.R, places, mode)
	r, e3 := decimal.Quantize(c.R, places, mode)
	if wrong == api.OK {
		if e != api.OK || e2 != api.OK && e2 != api.ErrRange || e3 != api.OK {
			t.Errorf("%s, %d places, mode %d: errors %d, %d and %d", c.Why, places, mode, e, e2, e3)
		}
		return
	}
	if e != wrong || e2 != wrong || e3 != wrong || x != (api.Int{}) || n != 0 || r != none {
		t.Errorf("%s, %d places, mode %d: errors %d, %d and %d, not %d", c.Why, places, mode, e, e2, e3, wrong)
	}
	exact, e := decimal.Exact(c.R, places)
	if wrong != api.ErrMode && (exact || e != wrong) {
		t.Errorf("Exact of %s with %d places is %v, error %d, not %d", c.Why, places, exact, e, wrong)
	}
}

// TestRoundIntRange is of P3.1: what decides is the number after it is rounded.
func TestRoundIntRange(t *testing.T) {
	for _, c := range []struct {
		r            string
		places, mode int
		want         int
		wrong        api.Errno
	}{
		{"1000000000000000", 0, api.Floor, most, api.OK}, {"-1000000000000000", 0, api.Floor, -most, api.OK}, {"1000000000000001", 0, api.Floor, 0, api.ErrRange}, {"-1000000000000001", 0, api.Floor, 0, api.ErrRange},
		{"1000000000000000.999", 0, api.Down, most, api.OK}, {"1000000000000000.001", 0, api.Up, 0, api.ErrRange}, {"-1000000000000000.999", 0, api.Down, -most, api.OK}, {"-1000000000000000.001", 0, api.Up, 0, api.ErrRange},
		{"1000000000000000.5", 0, api.HalfEven, most, api.OK}, {"1000000000000000.5", 0, api.HalfUp, 0, api.ErrRange}, {"-1000000000000000.5", 0, api.Ceil, -most, api.OK}, {"-1000000000000000.5", 0, api.Floor, 0, api.ErrRange},
		{"999999999999999.5", 0, api.HalfUp, most, api.OK}, {"1000000", 9, api.Up, most, api.OK}, {"-1000000", 9, api.Up, -most, api.OK}, {"1000000.000000001", 9, api.Down, 0, api.ErrRange}, {"1000000.0000000009", 9, api.Down, most, api.OK}, {"1000000000000000", 1, api.Down, 0, api.ErrRange},
		// Numbers that would be amounts if only their low bits counted.
		{"9223372036854775807", 0, api.Down, 0, api.ErrRange}, {"-9223372036854775808", 0, api.Down, 0, api.ErrRange}, {"18446744073709551616", 0, api.Down, 0, api.ErrRange}, {"18446744073709551623", 0, api.Down, 0, api.ErrRange}, {"-18446744073709551615", 0, api.Down, 0, api.ErrRange},
	} {
		n, e := decimal.RoundInt(ratioOf(t, c.r), c.places, c.mode)
		if n != c.want || e != c.wrong {
			t.Errorf("RoundInt(%s, %d, %d) is %d, error %d; not %d, error %d", c.r, c.places, c.mode, n, e, c.want, c.wrong)
		}
	}
}

// TestQuantize is of P3.2, written out.
func TestQuantize(t *testing.T) {
	for _, c := range []struct {
		r            string
		places, mode int
		want         string
	}{
		{"1/3", 2, api.HalfEven, "33/100"}, {"-1/3", 2, api.Floor, "-17/50"}, {"5/2", 0, api.HalfEven, "2"}, {"5/2", 0, api.HalfUp, "3"}, {"0.001", 2, api.Down, "0"}, {"0.001", 2, api.Ceil, "1/100"},
		{"3/4", 2, api.Up, "3/4"}, {"0.999", 2, api.Up, "1"}, {"-0.0000000005", 9, api.HalfUp, "-1/1000000000"}, {"-0.0000000005", 9, api.HalfEven, "0"}, {"0", 9, api.Up, "0"},
	} {
		expectQuantize(t, ratioOf(t, c.r), c.places, c.mode, ratioOf(t, c.want), api.OK)
	}
}

// TestQuantizeFit is of P3.2: results just short enough, and just too long.
func TestQuantizeFit(t *testing.T) {
	one, two := bigint.FromInt(1), bigint.FromInt(2)
	longest, long := sample.Parts(sample.Ones(480), one), sample.Parts(sample.Power(479), one)
	expectQuantize(t, longest, 9, api.Up, longest, api.OK)
	expectQuantize(t, minus(t, longest), 9, api.Floor, minus(t, longest), api.OK)
	expectQuantize(t, sample.Parts(sample.Ones(480), two), 0, api.Up, long, api.OK)
	expectQuantize(t, sample.Parts(sample.Ones(480), two), 1, api.Up, sample.Parts(sample.Ones(480), two), api.OK)
	for _, r := range []api.Ratio{sample.Parts(sample.Ones(480), bigint.FromInt(19)), sample.Parts(sample.Ones(480), bigint.FromInt(23)), sample.Parts(sample.Power(479), bigint.FromInt(3))} {
		for _, mode := range modes {
			expectQuantize(t, r, 9, mode, none, api.ErrOverflow)
			expectQuantize(t, minus(t, r), 9, mode, none, api.ErrOverflow)
			number, e := decimal.Round(r, 9, mode)
			if bigint.Bits(number) <= api.MaxBits || e != api.OK {
				t.Errorf("Round(%s, 9, %d) is %s, error %d", show(r), mode, bigint.Format(number), e)
			}
		}
	}
	// With this denominator the rounded number has 481 bits, and the even one of the two beside r loses a bit when it is reduced.
	r := sample.Parts(sample.Ones(480), bigint.FromInt(999999937))
	for _, mode := range []int{api.Floor, api.Ceil} {
		number := rounded(times(r, 9), mode)
		if number.BitLen() != 481 {
			t.Fatalf("%s has %d bits", number, number.BitLen())
		}
		want, wrong := fromRat(t, new(big.Rat).SetFrac(number, ten(9)))
		if (wrong == api.OK) != (number.Bit(0) == 0) {
			t.Fatalf("%s / 10^9: error %d", number, wrong)
		}
		expectQuantize(t, r, 9, mode, want, wrong)
	}
}

// TestExact is of P3.2, written out.
func TestExact(t *testing.T) {
	for _, c := range []struct {
		r      string
		places int
		want   bool
	}{
		{"1/8", 3, true}, {"1/8", 2, false}, {"1/8", 9, true}, {"1/3", 9, false}, {"-7", 0, true}, {"0", 0, true}, {"0", 9, true}, {"-1/10", 1, true}, {"-1/10", 0, false}, {"1/2", 0, false},
		{"0.000000001", 9, true}, {"0.000000001", 8, false}, {"0.0000000001", 9, false}, {"-2.000000001", 9, true}, {"1/512", 9, true}, {"1/1024", 9, false}, {"1/1953125", 9, true}, {"1/9765625", 9, false}, {"7/6", 9, false},
	} {
		exact, e := decimal.Exact(ratioOf(t, c.r), c.places)
		if exact != c.want || e != api.OK {
			t.Errorf("Exact(%s, %d) is %v, error %d", c.r, c.places, exact, e)
		}
	}
}
