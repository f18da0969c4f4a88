package decimal_test

import (
	"math/big"
	"math/rand/v2"
	"strconv"
	"testing"

	"fundadmin/api"
	"fundadmin/bigint"
	"fundadmin/ratio"
	"fundadmin/sample"
)

// most is the greatest amount.
const most = api.MaxAmount

var none api.Ratio // what comes with an error

func frac(n, d int) api.Ratio { return sample.Frac(n, d) }

// modes are the six, and around are the next ones that are none.
var (
	modes  = []int{api.Down, api.Up, api.Floor, api.Ceil, api.HalfUp, api.HalfEven}
	around = []int{api.Down - 1, api.HalfEven + 1, -1, 100}
)

// toBig and fromBig go between the numbers and math/big's by their texts.
func toBig(x api.Int) *big.Int {
	n, _ := new(big.Int).SetString(bigint.Format(x), 10)
	return n
}

func fromBig(t *testing.T, n *big.Int) api.Int {
	t.Helper()
	x, e := bigint.Parse(n.String())
	if e != api.OK {
		t.Fatalf("%s is no Int: error %d", n, e)
	}
	return x
}

func toRat(r api.Ratio) *big.Rat { return new(big.Rat).SetFrac(toBig(r.Num), toBig(r.Den)) }

// fromRat returns the valid ratio, or none and ErrOverflow.
func fromRat(t *testing.T, q *big.Rat) (api.Ratio, api.Errno) {
	t.Helper()
	if q.Num().BitLen() > 480 || q.Denom().BitLen() > 480 {
		return none, api.ErrOverflow
	}
	return sample.Parts(fromBig(t, q.Num()), fromBig(t, q.Denom())), api.OK
}

// ratioOf returns the ratio of a text like -7/2 or 0.125.
func ratioOf(t *testing.T, text string) api.Ratio {
	t.Helper()
	q, ok := new(big.Rat).SetString(text)
	if !ok {
		t.Fatalf("%s is no ratio", text)
	}
	r, e := fromRat(t, q)
	if e != api.OK {
		t.Fatalf("%s does not fit", text)
	}
	return r
}

// ten returns 10 to the power of n, for math/big.
func ten(n int) *big.Int { return new(big.Int).Exp(big.NewInt(10), big.NewInt(int64(n)), nil) }

// times returns r * 10^places.
func times(r api.Ratio, places int) *big.Rat {
	q := new(big.Rat).SetInt(ten(places))
	return q.Mul(q, toRat(r))
}

// minus returns -r.
func minus(t *testing.T, r api.Ratio) api.Ratio {
	t.Helper()
	x, e := ratio.Neg(r)
	if e != api.OK {
		t.Fatalf("-(%s): error %d", show(r), e)
	}
	return x
}

// show returns a ratio for messages, whether it is valid or not.
func show(r api.Ratio) string { return bigint.Format(r.Num) + "/" + bigint.Format(r.Den) }

// random returns ratios that are near whole numbers and halves of the places, or far from them, the same ones in every run.
func random(t *testing.T, count int) []api.Ratio {
	source := rand.New(rand.NewPCG(3, 3))
	var l []api.Ratio
	for len(l) < count {
		num := big.NewInt(source.Int64N(2e15) - 1e15)
		den := new(big.Int).Mul(ten(source.IntN(12)), big.NewInt(1+source.Int64N(3)))
		q := new(big.Rat).SetFrac(num, den)
		switch source.IntN(3) {
		case 0:
			q.Add(q, big.NewRat(source.Int64N(3)-1, 1e18))
		case 1:
			q.Mul(q, big.NewRat(source.Int64N(1e9), 1+source.Int64N(1e9)))
		}
		r, e := fromRat(t, q)
		if e != api.OK {
			t.Fatalf("%s does not fit", q)
		}
		l = append(l, r)
	}
	return l
}

// grid returns all halves, thirds, eighths and tenths of both signs around 0.
func grid(t *testing.T) []api.Ratio {
	var l []api.Ratio
	for _, d := range []int{1, 2, 3, 8, 10} {
		for n := -4 * d; n <= 4*d; n++ {
			l = append(l, ratioOf(t, strconv.Itoa(n)+"/"+strconv.Itoa(d)))
		}
	}
	return l
}

// samples returns edges, the grid and random ratios.
func samples(t *testing.T) []api.Ratio {
	return append(append(sample.Valid(), grid(t)...), random(t, 100)...)
}
