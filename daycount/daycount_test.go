package daycount_test

import (
	"testing"

	"fundadmin/api"
)

// TestPeriods is of P6.1, written out: periods with their days, those of Thirty360 and their fraction in the basis ActAct.
func TestPeriods(t *testing.T) {
	for _, c := range []struct {
		from, to     string
		days, thirty int
		actAct       api.Ratio
	}{
		// empty ones
		{"2000-01-01", "2000-01-01", 0, 0, frac(0, 1)}, {"2023-12-31", "2023-12-31", 0, 0, frac(0, 1)}, {"2024-02-29", "2024-02-29", 0, 0, frac(0, 1)},
		{"2024-05-31", "2024-05-31", 0, 0, frac(0, 1)}, {"2100-01-01", "2100-01-01", 0, 0, frac(0, 1)}, {"2199-12-31", "2199-12-31", 0, 0, frac(0, 1)},
		// of one day
		{"2000-01-01", "2000-01-02", 1, 1, frac(1, 366)}, {"2023-12-31", "2024-01-01", 1, 1, frac(1, 365)}, {"2024-12-31", "2025-01-01", 1, 1, frac(1, 366)},
		{"2000-12-31", "2001-01-01", 1, 1, frac(1, 366)}, {"2100-12-31", "2101-01-01", 1, 1, frac(1, 365)},
		{"2024-01-30", "2024-01-31", 1, 0, frac(1, 366)}, {"2024-01-31", "2024-02-01", 1, 1, frac(1, 366)},
		{"2024-02-28", "2024-02-29", 1, 1, frac(1, 366)}, {"2024-02-29", "2024-03-01", 1, 2, frac(1, 366)}, {"2023-02-28", "2023-03-01", 1, 3, frac(1, 365)},
		{"2000-02-29", "2000-03-01", 1, 2, frac(1, 366)}, {"2100-02-28", "2100-03-01", 1, 3, frac(1, 365)},
		{"2199-12-29", "2199-12-30", 1, 1, frac(1, 365)}, {"2199-12-30", "2199-12-31", 1, 0, frac(1, 365)},
		// within a year
		{"2023-01-01", "2023-07-02", 182, 181, frac(182, 365)}, {"2024-01-01", "2024-12-31", 365, 359, frac(365, 366)}, {"2024-01-31", "2024-03-31", 60, 60, frac(10, 61)},
		{"2024-01-15", "2024-03-31", 76, 75, frac(38, 183)}, {"2024-03-31", "2024-06-30", 91, 90, frac(91, 366)},
		{"2100-01-01", "2100-12-31", 364, 359, frac(364, 365)}, {"2199-01-01", "2199-12-31", 364, 359, frac(364, 365)},
		// whole years
		{"2000-01-01", "2001-01-01", 366, 360, frac(1, 1)}, {"2001-01-01", "2002-01-01", 365, 360, frac(1, 1)}, {"2023-01-01", "2024-01-01", 365, 360, frac(1, 1)},
		{"2024-01-01", "2025-01-01", 366, 360, frac(1, 1)}, {"2100-01-01", "2101-01-01", 365, 360, frac(1, 1)}, {"2198-01-01", "2199-01-01", 365, 360, frac(1, 1)},
		// over one end of a year
		{"2023-12-31", "2024-01-02", 2, 2, frac(731, 133590)}, {"2024-12-31", "2025-01-02", 2, 2, frac(731, 133590)}, {"2000-12-31", "2001-01-02", 2, 2, frac(731, 133590)},
		{"2099-12-31", "2100-01-02", 2, 2, frac(2, 365)}, {"2100-12-31", "2101-01-02", 2, 2, frac(2, 365)},
		{"2023-07-01", "2024-07-01", 366, 360, frac(66887, 66795)}, {"2024-07-01", "2025-07-01", 365, 360, frac(66703, 66795)},
		{"2024-02-29", "2025-02-28", 365, 359, frac(133283, 133590)}, {"2023-02-28", "2024-02-29", 366, 361, frac(133897, 133590)},
		// over several
		{"2023-12-31", "2025-01-01", 367, 361, frac(366, 365)}, {"2003-12-31", "2009-01-02", 1829, 1802, frac(1827, 365)}, {"2020-07-01", "2024-07-01", 1461, 1440, frac(4, 1)},
		{"2099-01-01", "2102-01-01", 1095, 1080, frac(3, 1)}, {"2095-06-15", "2105-06-15", 3652, 3600, frac(10, 1)},
		// the calendar, whole and but for one of its years
		{"2000-01-01", "2199-12-31", 73048, 71999, frac(72999, 365)}, {"2000-01-01", "2199-01-01", 72684, 71640, frac(199, 1)}, {"2000-12-31", "2199-12-31", 72683, 71640, frac(26584409, 133590)},
	} {
		from, to := day(t, c.from), day(t, c.to)
		expect(t, api.Act360, from, to, c.days, reduced(c.days, 360))
		expect(t, api.Act365, from, to, c.days, reduced(c.days, 365))
		expect(t, api.ActAct, from, to, c.days, c.actAct)
		expect(t, api.Thirty360, from, to, c.thirty, reduced(c.thirty, 360))
	}
}

// TestExamples is of P6.1: fractions that are to be reduced and such as are not, written out.
func TestExamples(t *testing.T) {
	for _, c := range []struct {
		basis    int
		from, to string
		days     int
		fraction api.Ratio
	}{
		{api.Act360, "2024-01-01", "2025-01-01", 366, frac(61, 60)}, {api.Act360, "2023-01-01", "2023-12-27", 360, frac(1, 1)}, {api.Act360, "2023-01-01", "2023-01-08", 7, frac(7, 360)}, {api.Act360, "2023-01-01", "2024-12-21", 720, frac(2, 1)},
		{api.Act365, "2024-01-01", "2025-01-01", 366, frac(366, 365)}, {api.Act365, "2023-01-01", "2024-01-01", 365, frac(1, 1)}, {api.Act365, "2023-01-01", "2023-01-06", 5, frac(1, 73)}, {api.Act365, "2000-01-01", "2199-12-31", 73048, frac(73048, 365)},
		{api.ActAct, "2023-01-01", "2023-01-06", 5, frac(1, 73)}, {api.ActAct, "2024-01-01", "2024-01-07", 6, frac(1, 61)}, {api.ActAct, "2023-12-26", "2024-01-07", 12, frac(731, 22265)},
		{api.Thirty360, "2024-01-01", "2024-01-31", 29, frac(29, 360)}, {api.Thirty360, "2024-01-01", "2024-02-01", 30, frac(1, 12)}, {api.Thirty360, "2024-01-15", "2024-03-31", 75, frac(5, 24)}, {api.Thirty360, "2024-01-01", "2027-01-01", 1080, frac(3, 1)},
	} {
		expect(t, c.basis, day(t, c.from), day(t, c.to), c.days, c.fraction)
	}
}

// TestMonthEnds is of P6.1: the ends of months at both ends of a period in the basis Thirty360.
func TestMonthEnds(t *testing.T) {
	ends := []struct {
		day      string
		position int // from January 1, 2023 on
	}{
		{"2023-01-27", 26}, {"2023-01-28", 27}, {"2023-01-29", 28}, {"2023-01-30", 29}, {"2023-01-31", 29}, {"2023-02-01", 30}, {"2023-02-27", 56}, {"2023-02-28", 57}, {"2023-03-01", 60},
		{"2023-03-28", 87}, {"2023-03-29", 88}, {"2023-03-30", 89}, {"2023-03-31", 89}, {"2023-04-01", 90}, {"2023-04-28", 117}, {"2023-04-29", 118}, {"2023-04-30", 119}, {"2023-05-01", 120},
		{"2023-12-28", 357}, {"2023-12-29", 358}, {"2023-12-30", 359}, {"2023-12-31", 359}, {"2024-01-01", 360}, {"2024-01-30", 389}, {"2024-01-31", 389}, {"2024-02-01", 390},
		{"2024-02-27", 416}, {"2024-02-28", 417}, {"2024-02-29", 418}, {"2024-03-01", 420}, {"2024-03-30", 449}, {"2024-03-31", 449}, {"2024-04-30", 479},
	}
	for i, from := range ends {
		for j, to := range ends {
			if j < i {
				// Even if the position is the same, as from a 31st to the 30th before it.
				expectError(t, api.Thirty360, day(t, from.day), day(t, to.day), api.ErrPeriod)
				continue
			}
			days := to.position - from.position
			expect(t, api.Thirty360, day(t, from.day), day(t, to.day), days, reduced(days, 360))
		}
	}
}

// TestCalendar is of P6.1: periods of several lengths from every day, against package time.
func TestCalendar(t *testing.T) {
	l := calendar()
	for from := range l {
		for _, days := range []int{0, 1, 31 + from%335, 365 + from%4000} {
			if to := from + days; to <= api.MaxDay {
				expectPassed(t, l, from, to)
			}
		}
	}
}

// TestYears is of P6.1: periods from every day of two years to days of the same two, for years of all kinds and in all positions of the month at either end, against package time.
func TestYears(t *testing.T) {
	l := calendar()
	for _, c := range []struct{ first, last string }{{"2000-01-01", "2001-12-31"}, {"2023-01-01", "2024-12-31"}, {"2099-01-01", "2100-12-31"}, {"2198-01-01", "2199-12-31"}} {
		first, last := day(t, c.first), day(t, c.last)
		for from := first; from <= last; from++ {
			for to := from + (from-first)%32; to <= last; to += 32 {
				expectPassed(t, l, from, to)
			}
		}
	}
}

// TestEdges is of P6.1: all pairs of days about the ends of months and years, against package time.
func TestEdges(t *testing.T) {
	l := calendar()
	days := edges(t)
	for i, from := range days {
		for _, to := range days[i:] {
			expectPassed(t, l, from, to)
		}
		for _, to := range days[:i] {
			for _, basis := range bases() {
				expectError(t, basis, from, to, api.ErrPeriod)
			}
		}
	}
}

// TestNoBasis is of P6.1: with no basis no other error counts.
func TestNoBasis(t *testing.T) {
	days := append(outside(), 0, 1, 30, 31, 366, api.MaxDay-1, api.MaxDay)
	for _, basis := range noBases() {
		for _, from := range days {
			for _, to := range days {
				expectError(t, basis, from, to, api.ErrBasis)
			}
		}
	}
}

// TestNoDay is of P6.1: at either end and at both, whatever the order of the ends is.
func TestNoDay(t *testing.T) {
	for _, basis := range bases() {
		for _, n := range outside() {
			for _, other := range append(outside(), 0, 1, 30, 31, 366, api.MaxDay-1, api.MaxDay) {
				expectError(t, basis, n, other, api.ErrDay)
				expectError(t, basis, other, n, api.ErrDay)
			}
		}
	}
}

// TestBackwards is of P6.1: periods that end before they begin, by one day and by many.
func TestBackwards(t *testing.T) {
	for _, basis := range bases() {
		for from := 1; from <= api.MaxDay; from++ {
			expectError(t, basis, from, from-1, api.ErrPeriod)
			expectError(t, basis, from, from/2, api.ErrPeriod)
		}
		expectError(t, basis, api.MaxDay, 0, api.ErrPeriod)
	}
}

// TestAgain is of P6.1: a call leaves nothing behind for the next one.
func TestAgain(t *testing.T) {
	l := calendar()
	for range 3 {
		for _, basis := range bases() {
			expectError(t, basis, 31, 30, api.ErrPeriod)
			expectError(t, basis, 31, -1, api.ErrDay)
		}
		expectPassed(t, l, 0, api.MaxDay)
		expectPassed(t, l, 30, 30)
		expectPassed(t, l, 365, 367)
	}
}
