package bigint_test

import (
	"math"
	"math/big"
	"math/rand/v2"
	"testing"

	"fundadmin/api"
	"fundadmin/bigint"
)

var zero api.Int

// minusZero is the only number that is not canonical.
var minusZero = api.Int{Neg: true}

// limbs returns the number with these limbs, the least significant first.
func limbs(neg bool, l ...uint32) api.Int {
	x := api.Int{Neg: neg}
	copy(x.Mag[:], l)
	return x
}

// power returns 2 to the power of n.
func power(n int) api.Int {
	var x api.Int
	x.Mag[n/32] = 1 << (n % 32)
	return x
}

// greatest returns 2^1024 - 1, and least its negative.
func greatest() api.Int {
	var x api.Int
	for i := range x.Mag {
		x.Mag[i] = math.MaxUint32
	}
	return x
}

func least() api.Int {
	x := greatest()
	x.Neg = true
	return x
}

// toBig and fromBig go between the numbers and math/big's, limb by limb, without the package that is tested.
func toBig(x api.Int) *big.Int {
	n := new(big.Int)
	for i := len(x.Mag) - 1; i >= 0; i-- {
		n.Lsh(n, 32)
		n.Or(n, big.NewInt(int64(x.Mag[i])))
	}
	if x.Neg {
		n.Neg(n)
	}
	return n
}

// fromBig returns the canonical number, or 0 and ErrOverflow.
func fromBig(n *big.Int) (api.Int, api.Errno) {
	if n.BitLen() > 1024 {
		return zero, api.ErrOverflow
	}
	x := api.Int{Neg: n.Sign() < 0}
	rest, limb := new(big.Int).Abs(n), new(big.Int)
	for i := range x.Mag {
		limb.And(rest, big.NewInt(math.MaxUint32))
		x.Mag[i] = uint32(limb.Uint64())
		rest.Rsh(rest, 32)
	}
	return x, api.OK
}

// canonical returns the canonical Int of the same number.
func canonical(x api.Int) api.Int {
	if x == minusZero {
		return zero
	}
	return x
}

// edges returns numbers at which carries, borrows and limbs begin and end, of both signs, with the zero that is not canonical.
func edges() []api.Int {
	l := []api.Int{
		zero, limbs(false, 1), limbs(false, 2), limbs(false, 3), limbs(false, 10), limbs(false, 1<<31),
		limbs(false, math.MaxUint32), limbs(false, 0, 1), limbs(false, 1, 1), limbs(false, math.MaxUint32, math.MaxInt32),
		limbs(false, 0, 1<<31), limbs(false, math.MaxUint32, math.MaxUint32), limbs(false, 0, 0, 1),
		limbs(false, 3, 0, 1<<31), limbs(false, 1, 0, 1<<29), limbs(false, 0, 0, 1<<15, 1<<15-1),
		power(511), power(512), power(992), power(1022), power(1023), greatest(),
	}
	for _, x := range l {
		x.Neg = true
		l = append(l, x)
	}
	return l
}

// samples returns the edges and numbers of all lengths, the same ones in every run.
func samples() []api.Int {
	l := edges()
	r := rand.New(rand.NewPCG(1, 2))
	for _, n := range []int{1, 2, 2, 3, 3, 4, 5, 8, 15, 16, 16, 17, 24, 31, 32, 32} {
		x := api.Int{Neg: r.IntN(2) == 0}
		for i := range n {
			x.Mag[i] = r.Uint32()
			if r.IntN(4) == 0 {
				x.Mag[i] = math.MaxUint32 * r.Uint32N(2)
			}
		}
		x.Mag[n-1] |= 1
		l = append(l, x)
	}
	return l
}

// show returns a number for messages, without the package that is tested.
func show(x api.Int) string {
	if x == minusZero {
		return "minus zero"
	}
	return toBig(x).Text(16)
}

// sum, difference and product fail the test on an error.
func sum(t *testing.T, a, b api.Int) api.Int {
	t.Helper()
	x, e := bigint.Add(a, b)
	if e != api.OK {
		t.Fatalf("%s + %s: error %d", show(a), show(b), e)
	}
	return x
}

func difference(t *testing.T, a, b api.Int) api.Int {
	t.Helper()
	x, e := bigint.Sub(a, b)
	if e != api.OK {
		t.Fatalf("%s - %s: error %d", show(a), show(b), e)
	}
	return x
}

func product(t *testing.T, a, b api.Int) api.Int {
	t.Helper()
	x, e := bigint.Mul(a, b)
	if e != api.OK {
		t.Fatalf("%s * %s: error %d", show(a), show(b), e)
	}
	return x
}
