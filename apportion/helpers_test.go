package apportion_test

import (
	"math/big"
	"math/rand/v2"
	"slices"
	"strconv"
	"testing"

	"fundadmin/api"
	"fundadmin/apportion"
)

// most is the greatest amount.
const most = api.MaxAmount

// division is one of the three functions.
type division struct {
	name   string
	divide func(total int, weights []int) ([]int, api.Errno)
}

var (
	split  = division{"Split", apportion.Split}
	capped = division{"Cap", apportion.Cap}
	spread = division{"Spread", apportion.Spread}
)

// call divides, and holds that neither the call nor a change of its result touches the weights or what lies behind them, and that nothing is kept from call to call.
func (d division) call(t *testing.T, total int, weights []int) ([]int, api.Errno) {
	t.Helper()
	const behind = 77
	room := append(slices.Clone(weights), behind, behind)
	given := room[:len(weights)]
	parts, e := d.divide(total, given)
	result := slices.Clone(parts)
	for i := range parts {
		parts[i] = -99
	}
	if !slices.Equal(given, weights) || room[len(weights)] != behind || room[len(weights)+1] != behind {
		t.Errorf("%s(%d, %s) changes or shares its weights", d.name, total, show(weights))
	}
	if again, f := d.divide(total, given); !slices.Equal(again, result) || f != e {
		t.Errorf("%s(%d, %s) is %s, error %d; then %s, error %d", d.name, total, show(weights), show(result), e, show(again), f)
	}
	return result, e
}

// parts is call for valid arguments.
func (d division) parts(t *testing.T, total int, weights []int) []int {
	t.Helper()
	parts, e := d.call(t, total, weights)
	if len(parts) != len(weights) || e != api.OK {
		t.Fatalf("%s(%d, %s) has %d parts, error %d", d.name, total, show(weights), len(parts), e)
	}
	return parts
}

func (d division) expect(t *testing.T, total int, weights, want []int) {
	t.Helper()
	if parts := d.parts(t, total, weights); !slices.Equal(parts, want) {
		t.Errorf("%s(%d, %s) is %s, not %s", d.name, total, show(weights), show(parts), show(want))
	}
}

func (d division) expectError(t *testing.T, total int, weights []int, want api.Errno) {
	t.Helper()
	if parts, e := d.call(t, total, weights); len(parts) != 0 || e != want {
		t.Errorf("%s(%d, %s) is %s, error %d; not error %d", d.name, total, show(weights), show(parts), e, want)
	}
}

// show returns numbers for messages, the first ones of many.
func show(l []int) string {
	s := "{"
	for i, n := range l {
		if i == 8 {
			s += " .. " + strconv.Itoa(len(l)) + " in all"
			break
		}
		s += " " + strconv.Itoa(n)
	}
	return s + " }"
}

// repeat returns a list of so many equal numbers.
func repeat(n, count int) []int { return slices.Repeat([]int{n}, count) }

func sumOf(l []int) int {
	sum := 0
	for _, n := range l {
		sum += n
	}
	return sum
}

// quota returns total * weight / sum, for a sum that is not 0.
func quota(total, weight, sum int) *big.Rat {
	product := new(big.Int).Mul(big.NewInt(int64(total)), big.NewInt(int64(weight)))
	return new(big.Rat).SetFrac(product, big.NewInt(int64(sum)))
}

func whole(n int) *big.Rat { return big.NewRat(int64(n), 1) }

// distance returns the magnitude of the difference.
func distance(a, b *big.Rat) *big.Rat {
	d := new(big.Rat).Sub(a, b)
	return d.Abs(d)
}

// input is a total with weights of which one at least is not 0.
type input struct {
	total   int
	weights []int
}

// inputs returns all short lists of small weights with all small totals, and long ones of all sizes at random, the same ones in every run.
func inputs() []input {
	var l []input
	for _, weights := range lists() {
		for total := -9; total <= 9; total++ {
			l = append(l, input{total, weights})
		}
	}
	source := rand.New(rand.NewPCG(4, 4))
	for range 150 {
		l = append(l, input{randomTotal(source), randomWeights(source)})
	}
	return l
}

// lists returns all lists of at most 3 weights below 6 and of 4 weights below 3, but for those of 0 alone.
func lists() [][]int {
	var l [][]int
	add := func(count, below int) {
		for n := 1; n < power(below, count); n++ {
			weights := make([]int, count)
			for i, rest := 0, n; i < count; i, rest = i+1, rest/below {
				weights[i] = rest % below
			}
			l = append(l, weights)
		}
	}
	add(1, 6)
	add(2, 6)
	add(3, 6)
	add(4, 3)
	return l
}

func power(n, exponent int) int {
	product := 1
	for range exponent {
		product *= n
	}
	return product
}

func randomTotal(source *rand.Rand) int {
	n := []int{source.IntN(100), source.IntN(1_000_000), source.IntN(most + 1), most - source.IntN(3)}[source.IntN(4)]
	if source.IntN(3) == 0 {
		return -n
	}
	return n
}

func randomWeights(source *rand.Rand) []int {
	count := []int{1 + source.IntN(3), 1 + source.IntN(20), 1 + source.IntN(api.MaxWeights), api.MaxWeights}[source.IntN(4)]
	below := []int{2, 4, 1000, most + 1}[source.IntN(4)]
	weights := make([]int, count)
	for i := range weights {
		weights[i] = source.IntN(below)
	}
	if sumOf(weights) == 0 {
		weights[source.IntN(count)] = most
	}
	return weights
}
