package daycount_test

import (
	"testing"

	"fundadmin/api"
	"fundadmin/date"
	"fundadmin/ratio"
)

// The tests of this file are of P6.3. They judge the functions by each other.

// TestAdditive holds that the fractions of two periods of which one begins where the other ends add up to that of the whole, and likewise their days.
func TestAdditive(t *testing.T) {
	days := edges(t)
	for _, basis := range bases() {
		for i, from := range days {
			for j := i; j < len(days); j++ {
				for k := j; k < len(days); k += 3 {
					addUp(t, basis, from, days[j], days[k])
				}
			}
		}
		for from := 0; from <= api.MaxDay; from += 11 {
			addUp(t, basis, from, (3*from+api.MaxDay)/4, (from+api.MaxDay)/2)
			addUp(t, basis, 0, from, api.MaxDay)
		}
	}
}

func addUp(t *testing.T, basis, from, between, to int) {
	t.Helper()
	whole := fractionOf(t, basis, from, to)
	sum, e := ratio.Add(fractionOf(t, basis, from, between), fractionOf(t, basis, between, to))
	if sum != whole || e != api.OK {
		t.Errorf("basis %d: the fractions from %d to %d and on to %d add up to %s, error %d; not to %s", basis, from, between, to, show(sum), e, show(whole))
	}
	if n := daysOf(t, basis, from, between) + daysOf(t, basis, between, to); n != daysOf(t, basis, from, to) {
		t.Errorf("basis %d: the days from %d to %d and on to %d add up to %d", basis, from, between, to, n)
	}
}

// TestNotNegative holds that the fraction of no period is negative, nor are its days, and that there are both for every period of one day and of many.
func TestNotNegative(t *testing.T) {
	for _, basis := range bases() {
		for n := range api.MaxDay {
			for _, to := range []int{n + 1, n + (api.MaxDay-n)/2} {
				r := fractionOf(t, basis, n, to)
				if sign, e := ratio.Sign(r); sign < 0 || e != api.OK {
					t.Errorf("basis %d: the fraction from %d to %d is %s", basis, n, to, show(r))
				}
				if days := daysOf(t, basis, n, to); days < 0 {
					t.Errorf("basis %d: there are %d days from %d to %d", basis, days, n, to)
				}
			}
		}
	}
}

// TestEmpty holds that the fraction of an empty period is 0.
func TestEmpty(t *testing.T) {
	for _, basis := range bases() {
		for n := range api.MaxDay + 1 {
			expect(t, basis, n, n, 0, frac(0, 1))
		}
	}
}

// TestWholeYears holds that a calendar year is 1 in the bases ActAct and Thirty360, and so many years are as many.
func TestWholeYears(t *testing.T) {
	for year := 2000; year < 2199; year++ {
		first := newYear(t, year)
		next := newYear(t, year+1)
		expect(t, api.ActAct, first, next, next-first, frac(1, 1))
		expect(t, api.Thirty360, first, next, 360, frac(1, 1))
		for last := year + 1; last <= 2199; last += 7 {
			if r := fractionOf(t, api.ActAct, first, newYear(t, last)); r != frac(last-year, 1) {
				t.Errorf("the years from %d to %d are %s in the basis ActAct", year, last, show(r))
			}
			expect(t, api.Thirty360, first, newYear(t, last), 360*(last-year), frac(last-year, 1))
		}
	}
	// The day on which the last year ends is none.
	for _, basis := range bases() {
		expectError(t, basis, newYear(t, 2199), api.MaxDay+1, api.ErrDay)
	}
}

func newYear(t *testing.T, year int) int {
	t.Helper()
	n, e := date.FromCivil(year, 1, 1)
	if e != api.OK {
		t.Fatalf("there is no January 1, %d: error %d", year, e)
	}
	return n
}

// TestRoundPeriods holds that 365 days are 1 in the basis Act365, and 360 days in Act360, wherever they begin.
func TestRoundPeriods(t *testing.T) {
	for n := 0; n+365 <= api.MaxDay; n++ {
		expect(t, api.Act365, n, n+365, 365, frac(1, 1))
		expect(t, api.Act360, n, n+360, 360, frac(1, 1))
	}
}
