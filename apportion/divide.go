package apportion

import (
	"cmp"
	"math/bits"
	"slices"

	"fundadmin/api"
	"fundadmin/decimal"
	"fundadmin/ratio"
)

// The weights of this file are allowed, and not all 0. Their sum fits an int, as MaxWeights of MaxAmount do, but a product with a total may not.

// byRemainders divides a total that is not negative by largest remainders.
func byRemainders(total int, weights []int) []int {
	parts, rests := make([]int, len(weights)), make([]int, len(weights))
	sum, missing := sumOf(weights), total
	for i, weight := range weights {
		parts[i], rests[i] = quota(total, weight, sum)
		missing -= parts[i]
	}
	first := fromLargest(rests)
	for i := range missing {
		parts[first[i]]++
	}
	return parts
}

// quota returns the greatest whole number that is not above total * weight / sum, and the remainder as a multiple of 1 / sum.
func quota(total, weight, sum int) (part, rest int) {
	high, low := bits.Mul64(uint64(total), uint64(weight))
	// The quotient fits, for it is at most the total: no weight is above the sum.
	quotient, remainder := bits.Div64(high, low, uint64(sum))
	return int(quotient), int(remainder)
}

// fromLargest returns the indices of numbers from the largest number to the least; of equal ones the lower index comes first.
func fromLargest(numbers []int) []int {
	indices := make([]int, len(numbers))
	for i := range indices {
		indices[i] = i
	}
	slices.SortStableFunc(indices, func(i, j int) int { return cmp.Compare(numbers[j], numbers[i]) })
	return indices
}

// byBeginnings divides a total so that each beginning of the parts has its quota, rounded.
func byBeginnings(total int, weights []int) []int {
	parts := make([]int, len(weights))
	sum, passed, given := sumOf(weights), 0, 0
	for i, weight := range weights {
		passed += weight
		reached := nearest(total, passed, sum)
		parts[i] = reached - given
		given = reached
	}
	return parts
}

// nearest returns total * weight / sum rounded by HalfEven.
func nearest(total, weight, sum int) int {
	// No error is possible: the parts of the ratios are short, and the result is at most the total.
	share, _ := ratio.Of(weight, sum)
	exact, _ := ratio.Mul(ratio.Whole(total), share)
	n, _ := decimal.RoundInt(exact, 0, api.HalfEven)
	return n
}

func sumOf(weights []int) int {
	sum := 0
	for _, weight := range weights {
		sum += weight
	}
	return sum
}

// negated turns the signs of parts that nobody else has.
func negated(parts []int) []int {
	for i := range parts {
		parts[i] = -parts[i]
	}
	return parts
}
