package date_test

import (
	"testing"

	"fundadmin/api"
	"fundadmin/date"
)

// The tests of this file are of P5.4. They judge the functions by each other.

// before reports whether a date is before another one.
func before(a, b civil) bool {
	if a.year != b.year {
		return a.year < b.year
	}
	if a.month != b.month {
		return a.month < b.month
	}
	return a.day < b.day
}

// TestInverse holds that dates and texts lead back to their days, and are ordered as these.
func TestInverse(t *testing.T) {
	var last civil
	lastText := ""
	for n := range api.MaxDay + 1 {
		c := callCivil(n).of(t, "Civil(%d)", n)
		call(date.FromCivil(c.year, c.month, c.day)).is(t, n, "FromCivil of %v", c)
		s := call(date.Format(n)).of(t, "Format(%d)", n)
		call(date.Parse(s)).is(t, n, "Parse(%q)", s)
		if !before(last, c) || lastText >= s {
			t.Errorf("day %d is %v and %q, the day before it %v and %q", n, c, s, last, lastText)
		}
		last, lastText = c, s
	}
}

// TestWeeks holds that weekdays repeat every 7 days, and not sooner.
func TestWeeks(t *testing.T) {
	for n := range api.MaxDay - 6 {
		weekday := call(date.Weekday(n)).of(t, "Weekday(%d)", n)
		seen := 0
		for i := range 7 {
			seen |= 1 << call(date.Weekday(n+i)).of(t, "Weekday(%d)", n+i)
		}
		if seen != 1<<7-1 {
			t.Errorf("the weekdays of the week from day %d are the bits of %b", n, seen)
		}
		call(date.Weekday(n+7)).is(t, weekday, "Weekday(%d)", n+7)
	}
}

// TestMonths holds that a month has as many days as Length says, and that MonthEnd is the day before the next month.
func TestMonths(t *testing.T) {
	n := 0
	for year := 2000; year <= 2199; year++ {
		for month := 1; month <= 12; month++ {
			call(date.FromCivil(year, month, 1)).is(t, n, "FromCivil(%d, %d, 1)", year, month)
			next := n + call(date.Length(year, month)).of(t, "Length(%d, %d)", year, month)
			for ; n < next; n++ {
				c := callCivil(n).of(t, "Civil(%d)", n)
				if c.year != year || c.month != month {
					t.Errorf("day %d is %v, not in %d-%d", n, c, year, month)
				}
				call(date.MonthEnd(n)).is(t, next-1, "MonthEnd(%d)", n)
			}
		}
	}
	if n != api.MaxDay+1 {
		t.Errorf("the months have %d days", n)
	}
}

// TestYears holds that 12 months are a year, and 0 months nothing.
func TestYears(t *testing.T) {
	for n := range api.MaxDay + 1 {
		call(date.AddMonths(n, 0)).is(t, n, "AddMonths(%d, 0)", n)
		c := callCivil(n).of(t, "Civil(%d)", n)
		for years := 1; c.year+years <= 2199; years += 13 {
			length := call(date.Length(c.year+years, c.month)).of(t, "Length(%d, %d)", c.year+years, c.month)
			later := call(date.AddMonths(n, 12*years)).of(t, "AddMonths(%d, %d)", n, 12*years)
			callCivil(later).is(t, civil{c.year + years, c.month, min(c.day, length)}, "day %d after %d years", n, years)
		}
	}
}

// TestMonotone holds that AddMonths of a later day, or by more months, is no earlier day.
func TestMonotone(t *testing.T) {
	compared := 0
	for _, months := range []int{0, 1, -1, 2, -2, 11, -11, 12, -12, 1000, -1000, 2000} {
		for n := range api.MaxDay {
			if atMost(t, n, months, n+1, months) {
				compared++
			}
		}
	}
	for n := 0; n <= api.MaxDay; n += 17 {
		for months := -40; months < 40; months++ {
			if atMost(t, n, months, n, months+1) {
				compared++
			}
		}
	}
	for _, n := range []int{0, 30, 31, 59, 36583, api.MaxDay - 1, api.MaxDay} {
		for months := -2400; months <= 2400; months++ {
			if atMost(t, n, months, n, months+1) {
				compared++
			}
		}
	}
	if compared < 500_000 {
		t.Errorf("only %d sums were compared", compared)
	}
}

// atMost holds that the first sum is not after the second one, and reports whether there are both.
func atMost(t *testing.T, n, months, m, others int) bool {
	t.Helper()
	a, e := date.AddMonths(n, months)
	b, f := date.AddMonths(m, others)
	if e != api.OK || f != api.OK {
		return false
	}
	if a > b {
		t.Errorf("AddMonths(%d, %d) is %d, AddMonths(%d, %d) is %d", n, months, a, m, others, b)
	}
	return true
}
