package apportion_test

import (
	"math/big"
	"slices"
	"testing"

	"fundadmin/api"
)

// TestSplit is of P4.1, written out: the parts, and the opposite ones of the opposite total.
func TestSplit(t *testing.T) {
	for _, c := range []struct {
		total   int
		weights []int
		want    []int
	}{
		{100, []int{1, 1, 1}, []int{34, 33, 33}}, {1, []int{0, 5, 5}, []int{0, 1, 0}},
		// one weight
		{0, []int{1}, []int{0}}, {7, []int{1}, []int{7}}, {7, []int{3}, []int{7}}, {1, []int{most}, []int{1}}, {most, []int{1}, []int{most}}, {most, []int{most}, []int{most}},
		// nothing to divide, nothing to round
		{0, []int{3, 4}, []int{0, 0}}, {0, []int{0, 1, 0}, []int{0, 0, 0}}, {10, []int{6, 3, 1}, []int{6, 3, 1}}, {20, []int{6, 3, 1}, []int{12, 6, 2}},
		// weights of 0
		{7, []int{0, 0, 2}, []int{0, 0, 7}}, {7, []int{2, 0, 0}, []int{7, 0, 0}}, {8, []int{0, 1, 0, 1, 0, 1, 0}, []int{0, 3, 0, 3, 0, 2, 0}},
		// equal weights, and with them equal remainders
		{1, []int{1, 1}, []int{1, 0}}, {2, []int{1, 1, 1}, []int{1, 1, 0}}, {3, []int{1, 1, 1, 1}, []int{1, 1, 1, 0}}, {1, []int{most, most}, []int{1, 0}}, {14, []int{3, 3, 3, 3}, []int{4, 4, 3, 3}},
		// equal remainders of other weights: 1/2, 5/2; 1/2, 5/2, 1; 1/3, 4/3, 4/3
		{3, []int{1, 5}, []int{1, 2}}, {3, []int{5, 1}, []int{3, 0}}, {4, []int{1, 2, 5}, []int{1, 1, 2}}, {4, []int{5, 2, 1}, []int{3, 1, 0}}, {3, []int{1, 4, 4}, []int{1, 1, 1}}, {3, []int{4, 4, 1}, []int{2, 1, 0}},
		// the largest remainder comes first, whatever its weight and index
		{2, []int{3, 3, 4}, []int{1, 0, 1}}, {5, []int{1, 10, 10}, []int{0, 3, 2}}, {10, []int{1, 2, 3}, []int{2, 3, 5}}, {4, []int{7, 2, 1}, []int{3, 1, 0}}, {5, []int{7, 2, 1}, []int{4, 1, 0}}, {2, []int{2, 3}, []int{1, 1}}, {10, []int{9, 5, 8}, []int{4, 2, 4}},
		// products far beyond an int
		{most, []int{most, most}, []int{most / 2, most / 2}}, {most, []int{most, most, 1}, []int{most / 2, most / 2, 0}}, {most - 1, []int{most, most - 1}, []int{most / 2, most/2 - 1}},
		{most, []int{1, 1, 1}, []int{333333333333334, 333333333333333, 333333333333333}}, {most, []int{most, 1}, []int{most - 1, 1}}, {most, []int{1, most}, []int{1, most - 1}}, {most - 1, []int{most, 1}, []int{most - 2, 1}}, {1, []int{1, most}, []int{0, 1}}, {2, []int{most, 1}, []int{2, 0}},
		// a product just above 2^63, and one just above 2^64
		{3037000500, []int{3037000500, 3037000500}, []int{1518500250, 1518500250}}, {4611686018428, []int{4000000, 6000000}, []int{1844674407371, 2767011611057}},
	} {
		split.expect(t, c.total, c.weights, c.want)
		opposite := slices.Clone(c.want)
		for i := range opposite {
			opposite[i] = -opposite[i]
		}
		split.expect(t, -c.total, c.weights, opposite)
	}
}

// TestCap is of P4.2, written out.
func TestCap(t *testing.T) {
	for _, c := range []struct {
		total int
		caps  []int
		want  []int
	}{
		{10, []int{4, 4}, []int{4, 4}}, {5, []int{4, 4}, []int{3, 2}},
		// the caps are all 0
		{0, []int{0}, []int{0}}, {7, []int{0}, []int{0}}, {most, []int{0, 0}, []int{0, 0}}, {0, []int{0, 0, 0}, []int{0, 0, 0}}, {most, repeat(0, api.MaxWeights), repeat(0, api.MaxWeights)},
		// their sum is below the total, equal to it, and above it
		{9, []int{4, 4}, []int{4, 4}}, {8, []int{4, 4}, []int{4, 4}}, {7, []int{4, 4}, []int{4, 3}}, {1, []int{4, 4}, []int{1, 0}}, {0, []int{4, 4}, []int{0, 0}},
		{13, []int{1, 1, 10}, []int{1, 1, 10}}, {12, []int{1, 1, 10}, []int{1, 1, 10}}, {11, []int{1, 1, 10}, []int{1, 1, 9}}, {3, []int{1, 1, 10}, []int{0, 0, 3}}, {5, []int{0, 7, 0}, []int{0, 5, 0}}, {8, []int{0, 7, 0}, []int{0, 7, 0}},
		{most, []int{7}, []int{7}}, {most, []int{most}, []int{most}}, {most - 1, []int{most}, []int{most - 1}}, {most, []int{most - 1}, []int{most - 1}},
		// it is above MaxAmount
		{most, []int{most, most}, []int{most / 2, most / 2}}, {1, []int{most, most}, []int{1, 0}}, {0, []int{most, most}, []int{0, 0}}, {most, []int{1, most}, []int{1, most - 1}}, {most, []int{most, 1}, []int{most - 1, 1}}, {most, []int{most, most - 1, 1}, []int{most / 2, most / 2, 0}},
		{most, repeat(most, api.MaxWeights), repeat(1953125000000, api.MaxWeights)},
	} {
		capped.expect(t, c.total, c.caps, c.want)
	}
}

// TestSpread is of P4.3, written out.
func TestSpread(t *testing.T) {
	for _, c := range []struct {
		total   int
		weights []int
		want    []int
	}{
		{1, []int{1, 1, 1}, []int{0, 1, 0}}, {-1, []int{1, 1, 1}, []int{0, -1, 0}}, {100, []int{1, 1, 1}, []int{33, 34, 33}}, {-100, []int{1, 1, 1}, []int{-33, -34, -33}},
		// one weight, and nothing to divide or to round
		{0, []int{5}, []int{0}}, {7, []int{5}, []int{7}}, {-7, []int{5}, []int{-7}}, {most, []int{most}, []int{most}}, {0, []int{1, 2}, []int{0, 0}}, {10, []int{6, 3, 1}, []int{6, 3, 1}}, {-10, []int{1, 3, 6}, []int{-1, -3, -6}},
		// a cumulative quota of 1/2, 3/2, 5/2 or 7/2
		{1, []int{1, 1}, []int{0, 1}}, {-1, []int{1, 1}, []int{0, -1}}, {3, []int{1, 1}, []int{2, 1}}, {-3, []int{1, 1}, []int{-2, -1}}, {5, []int{1, 1}, []int{2, 3}}, {-5, []int{1, 1}, []int{-2, -3}}, {7, []int{1, 1}, []int{4, 3}}, {-7, []int{1, 1}, []int{-4, -3}},
		// several of them after each other
		{2, []int{1, 1, 1, 1}, []int{0, 1, 1, 0}}, {-2, []int{1, 1, 1, 1}, []int{0, -1, -1, 0}}, {3, []int{1, 1, 1, 1, 1, 1}, []int{0, 1, 1, 0, 0, 1}}, {6, []int{1, 2, 2, 2, 2, 3}, []int{0, 2, 0, 2, 0, 2}},
		// near a half
		{1, []int{49, 51}, []int{0, 1}}, {1, []int{51, 49}, []int{1, 0}}, {-1, []int{49, 51}, []int{0, -1}}, {-1, []int{51, 49}, []int{-1, 0}}, {1, []int{most / 2, most/2 + 1}, []int{0, 1}}, {1, []int{most/2 + 1, most / 2}, []int{1, 0}},
		// weights of 0
		{10, []int{0, 1, 0, 2}, []int{0, 3, 0, 7}}, {3, []int{0, 1, 0, 0, 1, 0}, []int{0, 2, 0, 0, 1, 0}},
		// products far beyond an int
		{most, []int{most, most}, []int{most / 2, most / 2}}, {-most, []int{most, most}, []int{-most / 2, -most / 2}}, {most - 1, []int{most, most}, []int{most / 2, most/2 - 1}}, {most - 3, []int{most, most}, []int{most/2 - 2, most/2 - 1}},
		{most, []int{1, most}, []int{1, most - 1}}, {most, []int{1, 1, 1}, []int{333333333333333, 333333333333334, 333333333333333}}, {-most, repeat(most, api.MaxWeights), repeat(-1953125000000, api.MaxWeights)},
	} {
		spread.expect(t, c.total, c.weights, c.want)
	}
}

// byDefinition returns the parts of P4.1: the missing units are given out one after the other, each to the part that is furthest below its quota.
func byDefinition(total int, weights []int) []int {
	if total < 0 {
		parts := byDefinition(-total, weights)
		for i := range parts {
			parts[i] = -parts[i]
		}
		return parts
	}
	parts, remainders := make([]int, len(weights)), make([]*big.Rat, len(weights))
	sum, missing := sumOf(weights), total
	for i, weight := range weights {
		q := quota(total, weight, sum)
		parts[i] = int(new(big.Int).Div(q.Num(), q.Denom()).Int64())
		remainders[i] = q.Sub(q, whole(parts[i]))
		missing -= parts[i]
	}
	for ; missing > 0; missing-- {
		next := 0
		for i := range remainders {
			if remainders[i].Cmp(remainders[next]) > 0 {
				next = i
			}
		}
		parts[next]++
		remainders[next] = whole(-1)
	}
	return parts
}

// halfEven returns q rounded by HalfEven: half up, and then down again to an even number if q is a half.
func halfEven(q *big.Rat) int {
	up := new(big.Rat).Add(q, big.NewRat(1, 2))
	n := int(new(big.Int).Div(up.Num(), up.Denom()).Int64())
	if up.IsInt() && n%2 != 0 {
		return n - 1
	}
	return n
}

// beginnings returns the sums of the first numbers, of the first one alone to all of them.
func beginnings(l []int) []int {
	sums := make([]int, len(l))
	sum := 0
	for i, n := range l {
		sum += n
		sums[i] = sum
	}
	return sums
}

// TestInputs is of P4.1 to P4.3: the three functions against the definitions in math/big.
func TestInputs(t *testing.T) {
	halves := 0
	for _, c := range inputs() {
		split.expect(t, c.total, c.weights, byDefinition(c.total, c.weights))
		sum := sumOf(c.weights)
		if c.total >= 0 {
			capped.expect(t, c.total, c.weights, byDefinition(min(c.total, sum), c.weights))
		}
		want := make([]int, len(c.weights))
		for i, passed := range beginnings(c.weights) {
			q := quota(c.total, passed, sum)
			want[i] = halfEven(q)
			if q.Denom().Cmp(big.NewInt(2)) == 0 {
				halves++
			}
		}
		for i := len(want) - 1; i > 0; i-- {
			want[i] -= want[i-1]
		}
		spread.expect(t, c.total, c.weights, want)
	}
	if halves < 500 {
		t.Errorf("only %d cumulative quotas are halves", halves)
	}
}
