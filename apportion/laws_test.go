package apportion_test

import (
	"math/big"
	"math/rand/v2"
	"testing"
)

// The tests of this file are of P4.4. They judge the parts by the quotas and by each other, not by how they come about.

// TestSums holds that nothing is lost.
func TestSums(t *testing.T) {
	for _, c := range inputs() {
		for _, d := range []division{split, spread} {
			if sum := sumOf(d.parts(t, c.total, c.weights)); sum != c.total {
				t.Errorf("the parts of %s(%d, %s) add up to %d", d.name, c.total, show(c.weights), sum)
			}
		}
		if c.total < 0 {
			continue
		}
		if sum := sumOf(capped.parts(t, c.total, c.weights)); sum != min(c.total, sumOf(c.weights)) {
			t.Errorf("the parts of Cap(%d, %s) add up to %d", c.total, show(c.weights), sum)
		}
	}
}

// TestParts holds that a part of Split is off by less than 1, that its sign is that of the total, and that there is none for a weight of 0.
func TestParts(t *testing.T) {
	one := whole(1)
	for _, c := range inputs() {
		sum := sumOf(c.weights)
		for i, part := range split.parts(t, c.total, c.weights) {
			if distance(whole(part), quota(c.total, c.weights[i], sum)).Cmp(one) >= 0 {
				t.Errorf("part %d of Split(%d, %s) is %d", i, c.total, show(c.weights), part)
			}
			if c.total >= 0 && part < 0 || c.total <= 0 && part > 0 || c.weights[i] == 0 && part != 0 {
				t.Errorf("part %d of Split(%d, %s) is %d", i, c.total, show(c.weights), part)
			}
		}
	}
}

// TestPairs holds that a greater weight has no lesser part, and that the parts of equal weights differ by at most 1.
func TestPairs(t *testing.T) {
	equal := 0
	for _, c := range inputs() {
		parts := split.parts(t, c.total, c.weights)
		for i, a := range parts {
			for j, b := range parts[:min(i, 40)] {
				if c.total >= 0 && c.weights[i] > c.weights[j] && a < b || c.total >= 0 && c.weights[i] < c.weights[j] && a > b {
					t.Errorf("parts %d and %d of Split(%d, %s) are %d and %d", j, i, c.total, show(c.weights), b, a)
				}
				if c.weights[i] != c.weights[j] {
					continue
				}
				if a-b > 1 || b-a > 1 {
					t.Errorf("parts %d and %d of Split(%d, %s) are %d and %d", j, i, c.total, show(c.weights), b, a)
				}
				if a != b {
					equal++
				}
			}
		}
	}
	if equal < 500 {
		t.Errorf("only %d parts of equal weights differ", equal)
	}
}

// TestCaps holds that no part of Cap is above its cap or below 0.
func TestCaps(t *testing.T) {
	for _, c := range inputs() {
		if c.total < 0 {
			continue
		}
		for i, part := range capped.parts(t, c.total, c.weights) {
			if part < 0 || part > c.weights[i] {
				t.Errorf("part %d of Cap(%d, %s) is %d", i, c.total, show(c.weights), part)
			}
		}
	}
}

// TestBeginnings holds that each beginning of Spread's parts is off by at most 1/2, and that there is no part for a weight of 0.
func TestBeginnings(t *testing.T) {
	half := big.NewRat(1, 2)
	for _, c := range inputs() {
		parts := spread.parts(t, c.total, c.weights)
		reached, passed := beginnings(parts), beginnings(c.weights)
		for i := range parts {
			if distance(whole(reached[i]), quota(c.total, passed[i], passed[len(passed)-1])).Cmp(half) > 0 {
				t.Errorf("the first %d parts of Spread(%d, %s) add up to %d", i+1, c.total, show(c.weights), reached[i])
			}
			if c.weights[i] == 0 && parts[i] != 0 {
				t.Errorf("part %d of Spread(%d, %s) is %d", i, c.total, show(c.weights), parts[i])
			}
		}
	}
}

// TestGroups holds that a split among groups, each of which splits its part, differs from one at once by at most 2 in every part.
func TestGroups(t *testing.T) {
	source := rand.New(rand.NewPCG(4, 5))
	differ := map[int]int{}
	for _, c := range inputs() {
		groups := cut(source, c.weights)
		var weights, parts []int
		for _, group := range groups {
			weights = append(weights, sumOf(group))
		}
		if !allowed(weights) {
			continue
		}
		for i, part := range split.parts(t, c.total, weights) {
			if weights[i] == 0 {
				parts = append(parts, groups[i]...) // all are 0, as is the part
				continue
			}
			parts = append(parts, split.parts(t, part, groups[i])...)
		}
		for i, part := range split.parts(t, c.total, c.weights) {
			d := max(part-parts[i], parts[i]-part)
			if d > 2 {
				t.Errorf("part %d of Split(%d, %s) is %d, and %d by groups", i, c.total, show(c.weights), part, parts[i])
			}
			differ[d]++
		}
	}
	if differ[0] < 10_000 || differ[1] < 500 {
		t.Errorf("too few of a kind: %v", differ)
	}
}

// cut cuts a list into groups at random.
func cut(source *rand.Rand, l []int) [][]int {
	var groups [][]int
	longest := 1 + source.IntN(len(l))
	for len(l) > 0 {
		n := min(len(l), 1+source.IntN(longest))
		groups = append(groups, l[:n])
		l = l[n:]
	}
	return groups
}

// allowed reports whether sums of weights are weights themselves.
func allowed(sums []int) bool {
	for _, sum := range sums {
		if sum > most {
			return false
		}
	}
	return true
}
