package ratio_test

import (
	"math"
	"math/big"
	"math/rand/v2"
	"testing"

	"fundadmin/api"
	"fundadmin/bigint"
	"fundadmin/ratio"
)

var (
	none      api.Ratio // what comes with an error
	minusZero = api.Int{Neg: true}
	one       = whole(1)
)

func whole(n int) api.Int { return bigint.FromInt(n) }

// frac returns the two parts as they are, in lowest terms or not.
func frac(n, d int) api.Ratio { return api.Ratio{Num: whole(n), Den: whole(d)} }

// parts does the same for long numbers.
func parts(num, den api.Int) api.Ratio { return api.Ratio{Num: num, Den: den} }

// power returns 2 to the power of n.
func power(n int) api.Int {
	var x api.Int
	x.Mag[n/32] = 1 << (n % 32)
	return x
}

// ones returns the greatest number of n bits.
func ones(n int) api.Int {
	x := new(big.Int).Lsh(big.NewInt(1), uint(n))
	return fromBig(x.Sub(x, big.NewInt(1)))
}

// before returns x - 1.
func before(x api.Int) api.Int { return fromBig(new(big.Int).Sub(toBig(x), big.NewInt(1))) }

func negative(x api.Int) api.Int { return bigint.Neg(x) }

// toBig and fromBig go between the numbers and math/big's, limb by limb.
func toBig(x api.Int) *big.Int {
	n := new(big.Int)
	for i := len(x.Mag) - 1; i >= 0; i-- {
		n.Lsh(n, 32)
		n.Or(n, big.NewInt(int64(x.Mag[i])))
	}
	if x.Neg {
		n.Neg(n)
	}
	return n
}

func fromBig(n *big.Int) api.Int {
	x := api.Int{Neg: n.Sign() < 0}
	size := new(big.Int).Abs(n)
	for i := range x.Mag {
		x.Mag[i] = uint32(new(big.Int).Rsh(size, uint(32*i)).Uint64())
	}
	return x
}

func toRat(r api.Ratio) *big.Rat { return new(big.Rat).SetFrac(toBig(r.Num), toBig(r.Den)) }

// fromRat returns the valid ratio, or none and ErrOverflow.
func fromRat(q *big.Rat) (api.Ratio, api.Errno) {
	if q.Num().BitLen() > 480 || q.Denom().BitLen() > 480 {
		return none, api.ErrOverflow
	}
	return parts(fromBig(q.Num()), fromBig(q.Denom())), api.OK
}

// show returns a ratio for messages.
func show(r api.Ratio) string { return showInt(r.Num) + "/" + showInt(r.Den) }

func showInt(x api.Int) string {
	if x == minusZero {
		return "minus zero"
	}
	return toBig(x).Text(16)
}

// broken is a ratio that is not valid, and why.
type broken struct {
	why string
	r   api.Ratio
}

// invalid returns ratios that miss the definition in a single point each, as far as that is possible, and some that miss it in several.
func invalid() []broken {
	return []broken{
		{"the zero value", none},
		{"a denominator of 0", frac(1, 0)},
		{"-1/0", frac(-1, 0)},
		{"a denominator that is minus zero", parts(one, minusZero)},
		{"minus zero / minus zero", parts(minusZero, minusZero)},
		{"a numerator that is minus zero", parts(minusZero, one)},
		{"a negative denominator", frac(1, -2)},
		{"a negative denominator of 1", frac(3, -1)},
		{"0/-1", frac(0, -1)},
		{"both parts negative", frac(-1, -2)},
		{"2/4", frac(2, 4)},
		{"-2/4", frac(-2, 4)},
		{"3/3", frac(3, 3)},
		{"6/2", frac(6, 2)},
		{"0/2", frac(0, 2)},
		{"long parts with the divisor 2^64", parts(power(400), power(64))},
		{"long parts with the divisor 2^64 + 1", parts(api.Int{Mag: [32]uint32{2, 0, 2}}, api.Int{Mag: [32]uint32{3, 0, 3}})},
		{"long parts that are equal", parts(ones(480), ones(480))},
		{"a numerator of 481 bits", parts(power(480), one)},
		{"a negative numerator of 481 bits", parts(negative(power(480)), one)},
		{"a denominator of 481 bits", parts(one, power(480))},
		{"both parts of 481 bits", parts(power(480), ones(481))},
		{"a numerator of 1024 bits", parts(ones(1024), one)},
		{"a denominator of 1024 bits", parts(one, power(1023))},
	}
}

// valid returns the valid ratios at the edges of the definition.
func valid() []api.Ratio {
	return []api.Ratio{
		frac(0, 1), frac(1, 1), frac(-1, 1), frac(2, 1), frac(1, 2), frac(-1, 2), frac(-3, 2), frac(1, 3), frac(2, 3), frac(-7, 6), frac(9, 4), frac(-10, 7),
		frac(math.MaxInt, 1), frac(math.MinInt, 1), frac(math.MinInt, math.MaxInt), frac(math.MaxUint32, 1<<32), frac(1<<32, math.MaxUint32), frac(1, 1<<32),
		parts(power(239), one), parts(power(240), ones(240)), parts(ones(240), power(240)), parts(negative(one), ones(240)),
		parts(power(479), one), parts(one, power(479)), parts(negative(power(479)), one), parts(negative(one), power(479)),
		parts(ones(480), one), parts(one, ones(480)), parts(negative(ones(480)), one), parts(negative(one), ones(480)),
		parts(ones(480), power(479)), parts(power(479), ones(480)), parts(negative(ones(480)), power(479)), parts(ones(479), ones(480)), parts(ones(480), ones(479)),
		parts(whole(3), power(479)), parts(power(479), whole(3)),
	}
}

// random returns ratios of all lengths up to the bits, the same ones in every run.
func random(count, bits int) []api.Ratio {
	source := rand.New(rand.NewPCG(3, uint64(bits)))
	part := func() *big.Int {
		n := new(big.Int)
		for range 16 {
			n.Lsh(n, 32).Or(n, big.NewInt(int64(source.Uint32())))
		}
		return n.Rsh(n, uint(512-1-source.IntN(bits))).Add(n, big.NewInt(1))
	}
	var l []api.Ratio
	for len(l) < count {
		num, den := part(), part()
		if source.IntN(2) == 0 {
			num.Neg(num)
		}
		if r, e := fromRat(new(big.Rat).SetFrac(num, den)); e == api.OK {
			l = append(l, r)
		}
	}
	return l
}

// samples returns edges and random ratios.
func samples() []api.Ratio { return append(valid(), random(20, 480)...) }

// binary is a function of two ratios with a name.
type binary struct {
	name string
	do   func(a, b api.Ratio) (api.Ratio, api.Errno)
}

func operations() []binary {
	return []binary{{"Add", ratio.Add}, {"Sub", ratio.Sub}, {"Mul", ratio.Mul}, {"Quo", ratio.Quo}}
}

// expect fails the test if a call did not return the ratio and the error.
func expect(t *testing.T, call string, r api.Ratio, e api.Errno, want api.Ratio, wrong api.Errno) {
	t.Helper()
	if r != want || e != wrong {
		t.Errorf("%s is %s, error %d; not %s, error %d", call, show(r), e, show(want), wrong)
	}
}
