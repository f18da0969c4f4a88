package ratio_test

import (
	"math/big"
	"math/rand/v2"
	"testing"

	"fundadmin/api"
	"fundadmin/bigint"
	"fundadmin/ratio"
	"fundadmin/sample"
)

var (
	none      api.Ratio // what comes with an error
	minusZero = sample.MinusZero()
	one       = whole(1)
)

func whole(n int) api.Int { return bigint.FromInt(n) }

func frac(n, d int) api.Ratio          { return sample.Frac(n, d) }
func parts(num, den api.Int) api.Ratio { return sample.Parts(num, den) }
func power(n int) api.Int              { return sample.Power(n) }
func ones(n int) api.Int               { return sample.Ones(n) }

// before returns x - 1.
func before(x api.Int) api.Int { return fromBig(new(big.Int).Sub(toBig(x), big.NewInt(1))) }

func negative(x api.Int) api.Int { return bigint.Neg(x) }

// toBig and fromBig go between the numbers and math/big's, limb by limb.
func toBig(x api.Int) *big.Int {
	n := new(big.Int)
	for i := len(x.Mag) - 1; i >= 0; i-- {
		n.Lsh(n, 32)
		n.Or(n, big.NewInt(int64(x.Mag[i])))
	}
	if x.Neg {
		n.Neg(n)
	}
	return n
}

func fromBig(n *big.Int) api.Int {
	x := api.Int{Neg: n.Sign() < 0}
	size := new(big.Int).Abs(n)
	for i := range x.Mag {
		x.Mag[i] = uint32(new(big.Int).Rsh(size, uint(32*i)).Uint64())
	}
	return x
}

func toRat(r api.Ratio) *big.Rat { return new(big.Rat).SetFrac(toBig(r.Num), toBig(r.Den)) }

// fromRat returns the valid ratio, or none and ErrOverflow.
func fromRat(q *big.Rat) (api.Ratio, api.Errno) {
	if q.Num().BitLen() > 480 || q.Denom().BitLen() > 480 {
		return none, api.ErrOverflow
	}
	return parts(fromBig(q.Num()), fromBig(q.Denom())), api.OK
}

// show returns a ratio for messages.
func show(r api.Ratio) string { return showInt(r.Num) + "/" + showInt(r.Den) }

func showInt(x api.Int) string {
	if x == minusZero {
		return "minus zero"
	}
	return toBig(x).Text(16)
}

// random returns ratios of all lengths up to the bits, the same ones in every run.
func random(count, bits int) []api.Ratio {
	source := rand.New(rand.NewPCG(3, uint64(bits)))
	part := func() *big.Int {
		n := new(big.Int)
		for range 16 {
			n.Lsh(n, 32).Or(n, big.NewInt(int64(source.Uint32())))
		}
		return n.Rsh(n, uint(512-1-source.IntN(bits))).Add(n, big.NewInt(1))
	}
	var l []api.Ratio
	for len(l) < count {
		num, den := part(), part()
		if source.IntN(2) == 0 {
			num.Neg(num)
		}
		if r, e := fromRat(new(big.Rat).SetFrac(num, den)); e == api.OK {
			l = append(l, r)
		}
	}
	return l
}

// samples returns edges and random ratios.
func samples() []api.Ratio { return append(sample.Valid(), random(20, 480)...) }

// binary is a function of two ratios with a name.
type binary struct {
	name string
	do   func(a, b api.Ratio) (api.Ratio, api.Errno)
}

func operations() []binary {
	return []binary{{"Add", ratio.Add}, {"Sub", ratio.Sub}, {"Mul", ratio.Mul}, {"Quo", ratio.Quo}}
}

// expect fails the test if a call did not return the ratio and the error.
func expect(t *testing.T, call string, r api.Ratio, e api.Errno, want api.Ratio, wrong api.Errno) {
	t.Helper()
	if r != want || e != wrong {
		t.Errorf("%s is %s, error %d; not %s, error %d", call, show(r), e, show(want), wrong)
	}
}
