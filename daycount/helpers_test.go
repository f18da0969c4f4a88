package daycount_test

import (
	"fmt"
	"math"
	"testing"
	"time"

	"fundadmin/api"
	"fundadmin/bigint"
	"fundadmin/date"
	"fundadmin/daycount"
	"fundadmin/sample"
)

const (
	least = math.MinInt
	most  = math.MaxInt
)

// bases returns the four.
func bases() []int { return []int{api.Act360, api.Act365, api.ActAct, api.Thirty360} }

// noBases returns numbers of none.
func noBases() []int {
	return []int{api.Act360 - 1, api.Thirty360 + 1, api.Thirty360 + 2, 100, 257, 1<<32 + api.Act365, -1 << 32, -api.Act360, -api.Thirty360, 360, 365, least, least + 1, most - 1, most}
}

// outside returns numbers of no day.
func outside() []int {
	return []int{-1, api.MaxDay + 1, -2, api.MaxDay + 2, -api.MaxDay, 100_000, 1 << 32, 1<<32 + 5, -1 << 32, least, least + 1, most - 1, most}
}

// edges returns days about the ends of years and of months, in years of all kinds, in their order.
func edges(t *testing.T) []int {
	t.Helper()
	days := []int{0, 1, 29, 30, 31}
	for _, s := range []string{"2000-02-28", "2000-12-30", "2001-02-27", "2003-12-30", "2023-02-27", "2024-01-29", "2024-02-28", "2024-12-30", "2025-12-30", "2096-02-28", "2099-12-30", "2100-02-27", "2100-12-30", "2104-02-28"} {
		n := day(t, s)
		days = append(days, n, n+1, n+2, n+3)
	}
	return append(days, api.MaxDay-365, api.MaxDay-364, api.MaxDay-30, api.MaxDay-1, api.MaxDay)
}

// day returns the day of a text.
func day(t *testing.T, s string) int {
	t.Helper()
	n, e := date.Parse(s)
	if e != api.OK {
		t.Fatalf("there is no day %q: error %d", s, e)
	}
	return n
}

func frac(n, d int) api.Ratio { return sample.Frac(n, d) }

// reduced returns n / d in lowest terms, for n from 0 and d from 1 on.
func reduced(n, d int) api.Ratio {
	a, b := n, d
	for b != 0 {
		a, b = b, a%b
	}
	return frac(n/a, d/a)
}

// expect fails the test if Days and Fraction of a period did not return these results and no error.
func expect(t *testing.T, basis, from, to, days int, fraction api.Ratio) {
	t.Helper()
	expectBoth(t, basis, from, to, days, fraction, api.OK)
}

// expectError fails the test if Days and Fraction did not return this error, with zero values.
func expectError(t *testing.T, basis, from, to int, want api.Errno) {
	t.Helper()
	expectBoth(t, basis, from, to, 0, api.Ratio{}, want)
}

func expectBoth(t *testing.T, basis, from, to, days int, fraction api.Ratio, want api.Errno) {
	t.Helper()
	if n, e := daycount.Days(basis, from, to); n != days || e != want {
		t.Errorf("Days(%d, %d, %d) is %d, error %d; not %d, error %d", basis, from, to, n, e, days, want)
	}
	if r, e := daycount.Fraction(basis, from, to); r != fraction || e != want {
		t.Errorf("Fraction(%d, %d, %d) is %s, error %d; not %s, error %d", basis, from, to, show(r), e, show(fraction), want)
	}
}

// daysOf and fractionOf return what there is to return of valid arguments.
func daysOf(t *testing.T, basis, from, to int) int {
	t.Helper()
	n, e := daycount.Days(basis, from, to)
	if e != api.OK {
		t.Fatalf("Days(%d, %d, %d) has the error %d", basis, from, to, e)
	}
	return n
}

func fractionOf(t *testing.T, basis, from, to int) api.Ratio {
	t.Helper()
	r, e := daycount.Fraction(basis, from, to)
	if e != api.OK {
		t.Fatalf("Fraction(%d, %d, %d) has the error %d", basis, from, to, e)
	}
	return r
}

// show returns a ratio for messages.
func show(r api.Ratio) string {
	return fmt.Sprintf("%s/%s", bigint.Format(r.Num), bigint.Format(r.Den))
}

// passed is what has passed since the first day when a day begins.
type passed struct {
	common, leap int // days of years of 365 and of 366 days
	thirty       int // days, if all months had 30
}

// calendar returns for each day what has passed, by package time.
func calendar() []passed {
	l := make([]passed, api.MaxDay+1)
	var p passed
	for n := range l {
		at := time.Date(2000, 1, 1+n, 0, 0, 0, 0, time.UTC)
		p.thirty = 360*(at.Year()-2000) + 30*(int(at.Month())-1) + min(at.Day(), 30) - 1
		l[n] = p
		if time.Date(at.Year(), 12, 31, 0, 0, 0, 0, time.UTC).YearDay() == 366 {
			p.leap++
		} else {
			p.common++
		}
	}
	return l
}

// expectPassed fails the test if a period has other results in any basis than those that follow from what has passed at both of its ends.
func expectPassed(t *testing.T, l []passed, from, to int) {
	t.Helper()
	common, leap, thirty := l[to].common-l[from].common, l[to].leap-l[from].leap, l[to].thirty-l[from].thirty
	days := common + leap
	expect(t, api.Act360, from, to, days, reduced(days, 360))
	expect(t, api.Act365, from, to, days, reduced(days, 365))
	expect(t, api.ActAct, from, to, days, reduced(common*366+leap*365, 365*366))
	expect(t, api.Thirty360, from, to, thirty, reduced(thirty, 360))
}
