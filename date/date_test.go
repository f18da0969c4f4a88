package date_test

import (
	"testing"

	"fundadmin/api"
	"fundadmin/date"
)

// TestDays is of P5.1 to P5.3, written out: days by their numbers, dates, weekdays and texts.
func TestDays(t *testing.T) {
	for _, c := range []struct {
		n       int
		date    civil
		weekday int
		text    string
	}{
		{0, civil{2000, 1, 1}, api.Saturday, "2000-01-01"},
		{1, civil{2000, 1, 2}, api.Sunday, "2000-01-02"},
		{2, civil{2000, 1, 3}, api.Monday, "2000-01-03"},
		{30, civil{2000, 1, 31}, api.Monday, "2000-01-31"},
		{31, civil{2000, 2, 1}, api.Tuesday, "2000-02-01"},
		{58, civil{2000, 2, 28}, api.Monday, "2000-02-28"},
		{59, civil{2000, 2, 29}, api.Tuesday, "2000-02-29"},
		{60, civil{2000, 3, 1}, api.Wednesday, "2000-03-01"},
		{365, civil{2000, 12, 31}, api.Sunday, "2000-12-31"},
		{366, civil{2001, 1, 1}, api.Monday, "2001-01-01"},
		{730, civil{2001, 12, 31}, api.Monday, "2001-12-31"},
		{731, civil{2002, 1, 1}, api.Tuesday, "2002-01-01"},
		{9820, civil{2026, 11, 20}, api.Friday, "2026-11-20"},
		{36524, civil{2099, 12, 31}, api.Thursday, "2099-12-31"},
		{36525, civil{2100, 1, 1}, api.Friday, "2100-01-01"},
		{36583, civil{2100, 2, 28}, api.Sunday, "2100-02-28"},
		{36584, civil{2100, 3, 1}, api.Monday, "2100-03-01"},
		{36889, civil{2100, 12, 31}, api.Friday, "2100-12-31"},
		{36890, civil{2101, 1, 1}, api.Saturday, "2101-01-01"},
		{api.MaxDay - 365, civil{2198, 12, 31}, api.Monday, "2198-12-31"},
		{api.MaxDay - 364, civil{2199, 1, 1}, api.Tuesday, "2199-01-01"},
		{api.MaxDay - 1, civil{2199, 12, 30}, api.Monday, "2199-12-30"},
		{api.MaxDay, civil{2199, 12, 31}, api.Tuesday, "2199-12-31"},
	} {
		call(date.FromCivil(c.date.year, c.date.month, c.date.day)).is(t, c.n, "FromCivil of %v", c.date)
		callCivil(c.n).is(t, c.date, "Civil(%d)", c.n)
		call(date.Weekday(c.n)).is(t, c.weekday, "Weekday(%d)", c.n)
		call(date.Parse(c.text)).is(t, c.n, "Parse(%q)", c.text)
		call(date.Format(c.n)).is(t, c.text, "Format(%d)", c.n)
	}
}

// TestNoSuchDate is of P5.1: dates that there are not.
func TestNoSuchDate(t *testing.T) {
	for _, c := range []civil{
		{2026, 0, 1}, {2026, 13, 1}, {2026, -1, 1}, {2026, 14, 1}, {2026, 257, 1}, {2026, least, 1}, {2026, most, 1},
		{2026, 1, 0}, {2026, 1, -1}, {2026, 1, 32}, {2026, 1, 257}, {2026, 1, least}, {2026, 1, most},
		{1999, 1, 1}, {1999, 12, 31}, {2200, 1, 1}, {2200, 12, 31}, {0, 1, 1}, {-2000, 1, 1}, {26, 1, 1}, {1<<32 + 2026, 1, 1}, {least, 1, 1}, {most, 1, 1},
		{2001, 2, 29}, {2100, 2, 29}, {2000, 2, 30}, {2004, 2, 30}, {2001, 2, 30}, {2100, 2, 30},
		{least, least, least}, {most, most, most},
	} {
		call(date.FromCivil(c.year, c.month, c.day)).fails(t, api.ErrCivil, "FromCivil of %v", c)
	}
}

// TestFromCivil is of P5.1: all dates, with such as are nearly ones, against package time.
func TestFromCivil(t *testing.T) {
	n := 0
	for year := 1990; year <= 2210; year++ {
		for month := -1; month <= 14; month++ {
			for day := -1; day <= 33; day++ {
				c, r := civil{year, month, day}, call(date.FromCivil(year, month, day))
				if civilOf(at(year, month, day)) != c || year < 2000 || year > 2199 {
					r.fails(t, api.ErrCivil, "FromCivil of %v", c)
					continue
				}
				r.is(t, n, "FromCivil of %v", c)
				n++
			}
		}
	}
	if n != api.MaxDay+1 {
		t.Errorf("there are %d dates", n)
	}
}

// TestCalendar is of P5.1 to P5.3: all days against package time.
func TestCalendar(t *testing.T) {
	for n, day := range calendar() {
		callCivil(n).is(t, civilOf(day), "Civil(%d)", n)
		call(date.Weekday(n)).is(t, (int(day.Weekday())+6)%7, "Weekday(%d)", n)
		call(date.MonthEnd(n)).is(t, n-day.Day()+at(day.Year(), int(day.Month())+1, 0).Day(), "MonthEnd(%d)", n)
		call(date.Format(n)).is(t, day.Format("2006-01-02"), "Format(%d)", n)
		call(date.Parse(day.Format("2006-01-02"))).is(t, n, "Parse of day %d", n)
	}
}

// TestOutside is of P5.1 to P5.3: numbers of no day.
func TestOutside(t *testing.T) {
	for _, n := range outside() {
		callCivil(n).fails(t, api.ErrDay, "Civil(%d)", n)
		call(date.Weekday(n)).fails(t, api.ErrDay, "Weekday(%d)", n)
		call(date.MonthEnd(n)).fails(t, api.ErrDay, "MonthEnd(%d)", n)
		call(date.Format(n)).fails(t, api.ErrDay, "Format(%d)", n)
		for _, months := range []int{0, 1, -1, 2400, -2400, least, most} {
			call(date.AddMonths(n, months)).fails(t, api.ErrDay, "AddMonths(%d, %d)", n, months)
		}
	}
}

// TestLeap is of P5.1: years of all kinds.
func TestLeap(t *testing.T) {
	for _, c := range []struct {
		year int
		leap bool
	}{
		{2000, true}, {2001, false}, {2002, false}, {2003, false}, {2004, true}, {2026, false}, {2028, true}, {2096, true}, {2099, false}, {2100, false}, {2104, true}, {2196, true}, {2199, false},
		{2200, false}, {2300, false}, {2400, true}, {1999, false}, {1996, true}, {1900, false}, {1600, true}, {4, true}, {1, false}, {0, true},
		{-1, false}, {-2, false}, {-3, false}, {-4, true}, {-99, false}, {-100, false}, {-104, true}, {-200, false}, {-300, false}, {-399, false}, {-400, true}, {-2000, true}, {-2100, false},
		// They end in 808, 807, 807 and 804, and none is divisible by 100.
		{least, true}, {least + 1, false}, {most, false}, {most - 3, true},
	} {
		if leap := date.Leap(c.year); leap != c.leap {
			t.Errorf("Leap(%d) is %t", c.year, leap)
		}
	}
	for year := -3000; year <= 3000; year++ {
		if leap := date.Leap(year); leap != (at(year, 12, 31).YearDay() == 366) {
			t.Errorf("Leap(%d) is %t", year, leap)
		}
	}
}

// TestLength is of P5.1: the months of years of all kinds, and such as there are not.
func TestLength(t *testing.T) {
	for _, c := range []struct{ year, february int }{{2000, 29}, {2001, 28}, {2004, 29}, {2026, 28}, {2099, 28}, {2100, 28}, {2104, 29}, {2196, 29}, {2199, 28}} {
		for i, want := range []int{31, c.february, 31, 30, 31, 30, 31, 31, 30, 31, 30, 31} {
			call(date.Length(c.year, i+1)).is(t, want, "Length(%d, %d)", c.year, i+1)
			on(t, c.year, i+1, want)
			call(date.FromCivil(c.year, i+1, want+1)).fails(t, api.ErrCivil, "FromCivil(%d, %d, %d)", c.year, i+1, want+1)
		}
	}
	for _, year := range []int{1999, 2200, 0, -2000, least, most} {
		for _, month := range []int{1, 2, 12, 0, 13} {
			call(date.Length(year, month)).fails(t, api.ErrCivil, "Length(%d, %d)", year, month)
		}
	}
	for _, month := range []int{0, 13, -1, 14, 257, least, most} {
		for _, year := range []int{2000, 2026, 2199} {
			call(date.Length(year, month)).fails(t, api.ErrCivil, "Length(%d, %d)", year, month)
		}
	}
}
