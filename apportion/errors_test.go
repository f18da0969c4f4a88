package apportion_test

import (
	"math"
	"slices"
	"testing"

	"fundadmin/api"
)

// withLast returns numbers that are equal but for the last one.
func withLast(last, n, count int) []int { return append(repeat(n, count-1), last) }

// TestCount is of P4.1 to P4.3: how many weights there may be.
func TestCount(t *testing.T) {
	for _, d := range []division{split, capped, spread} {
		d.expectError(t, 5, nil, api.ErrCount)
		d.expectError(t, 5, []int{}, api.ErrCount)
		d.expectError(t, 5, repeat(1, api.MaxWeights+1), api.ErrCount)
		d.expectError(t, 5, repeat(1, 2*api.MaxWeights), api.ErrCount)
		d.expect(t, 5, []int{5}, []int{5})
		d.expect(t, api.MaxWeights, repeat(1, api.MaxWeights), repeat(1, api.MaxWeights))
		// The helpers above make a list of their own, which is empty but never nil.
		if parts, e := d.divide(5, nil); len(parts) != 0 || e != api.ErrCount {
			t.Errorf("%s(5, nil) is %s, error %d", d.name, show(parts), e)
		}
	}
}

// TestWeight is of P4.1 to P4.3: weights that are not allowed, in every place.
func TestWeight(t *testing.T) {
	for _, d := range []division{split, capped, spread} {
		for _, wrong := range []int{-1, -most, math.MinInt, most + 1, math.MaxInt} {
			d.expectError(t, 5, []int{wrong}, api.ErrWeight)
			d.expectError(t, 5, []int{wrong, 1, 1}, api.ErrWeight)
			d.expectError(t, 5, []int{1, wrong, 1}, api.ErrWeight)
			d.expectError(t, 5, []int{1, 1, wrong}, api.ErrWeight)
			d.expectError(t, 5, withLast(wrong, 1, api.MaxWeights), api.ErrWeight)
		}
		d.expectError(t, 5, []int{-1, 6}, api.ErrWeight)
		d.expectError(t, 5, []int{most + 1, -1}, api.ErrWeight)
		d.expect(t, 5, []int{0, most}, []int{0, 5})
	}
}

// TestTotal is of P4.1 to P4.3: the totals at the edges and beyond them.
func TestTotal(t *testing.T) {
	equal, halves := []int{most, most}, []int{most / 2, most / 2}
	for _, d := range []division{split, capped, spread} {
		for _, total := range []int{most + 1, math.MaxInt, -most - 1, math.MinInt} {
			d.expectError(t, total, equal, api.ErrTotal)
			d.expectError(t, total, []int{1}, api.ErrTotal)
		}
		d.expect(t, most, equal, halves)
		d.expect(t, 0, equal, []int{0, 0})
	}
	for _, d := range []division{split, spread} {
		d.expect(t, -most, equal, []int{-most / 2, -most / 2})
		d.expect(t, -1, []int{1}, []int{-1})
	}
	for _, total := range []int{-1, -2, -most} {
		capped.expectError(t, total, equal, api.ErrTotal)
		capped.expectError(t, total, []int{1}, api.ErrTotal)
	}
}

// TestNoWeight is of P4.1 and P4.3: weights that are all 0, whatever the total, and such that are not for the last one alone.
func TestNoWeight(t *testing.T) {
	for _, d := range []division{split, spread} {
		for _, total := range []int{0, 5, -5, most, -most} {
			for _, count := range []int{1, 2, api.MaxWeights} {
				d.expectError(t, total, repeat(0, count), api.ErrNoWeight)
				d.expect(t, total, withLast(1, 0, count), withLast(total, 0, count))
			}
		}
	}
}

// TestOrderOfErrors is of P4.1 to P4.3: arguments that are wrong in several ways. Cap takes weights that are all 0.
func TestOrderOfErrors(t *testing.T) {
	zeros := repeat(0, api.MaxWeights+1)
	negative := slices.Concat([]int{-1}, zeros)
	for _, c := range []struct {
		total         int
		weights       []int
		others, ofCap api.Errno
	}{
		{most + 1, nil, api.ErrCount, api.ErrCount}, {-1, nil, api.ErrCount, api.ErrCount},
		{5, zeros, api.ErrCount, api.ErrCount}, {most + 1, zeros, api.ErrCount, api.ErrCount}, {-most - 1, zeros, api.ErrCount, api.ErrCount},
		{5, negative, api.ErrCount, api.ErrCount}, {-1, negative, api.ErrCount, api.ErrCount}, {most + 1, negative, api.ErrCount, api.ErrCount},
		{5, []int{0, -1}, api.ErrWeight, api.ErrWeight}, {-1, []int{1, -1}, api.ErrWeight, api.ErrWeight},
		{most + 1, []int{1, -1}, api.ErrWeight, api.ErrWeight}, {most + 1, []int{most + 1, 0}, api.ErrWeight, api.ErrWeight}, {-most - 1, []int{0, -1, 0}, api.ErrWeight, api.ErrWeight},
		{most + 1, []int{0}, api.ErrTotal, api.ErrTotal}, {most + 1, []int{0, 0}, api.ErrTotal, api.ErrTotal}, {-most - 1, []int{0, 0}, api.ErrTotal, api.ErrTotal},
		{-1, []int{0, 0}, api.ErrNoWeight, api.ErrTotal}, {-most, []int{0}, api.ErrNoWeight, api.ErrTotal},
	} {
		split.expectError(t, c.total, c.weights, c.others)
		spread.expectError(t, c.total, c.weights, c.others)
		capped.expectError(t, c.total, c.weights, c.ofCap)
	}
}
