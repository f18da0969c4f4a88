package date_test

import (
	"testing"

	"fundadmin/api"
	"fundadmin/date"
)

// TestMonthEnd is of P5.2, written out.
func TestMonthEnd(t *testing.T) {
	for _, c := range []struct{ from, to civil }{
		{civil{2000, 1, 1}, civil{2000, 1, 31}}, {civil{2000, 1, 31}, civil{2000, 1, 31}},
		{civil{2000, 2, 1}, civil{2000, 2, 29}}, {civil{2000, 2, 28}, civil{2000, 2, 29}}, {civil{2000, 2, 29}, civil{2000, 2, 29}},
		{civil{2001, 2, 28}, civil{2001, 2, 28}}, {civil{2100, 2, 1}, civil{2100, 2, 28}}, {civil{2100, 2, 28}, civil{2100, 2, 28}},
		{civil{2026, 4, 15}, civil{2026, 4, 30}}, {civil{2026, 12, 1}, civil{2026, 12, 31}}, {civil{2199, 12, 1}, civil{2199, 12, 31}}, {civil{2199, 12, 31}, civil{2199, 12, 31}},
	} {
		n := on(t, c.from.year, c.from.month, c.from.day)
		call(date.MonthEnd(n)).is(t, on(t, c.to.year, c.to.month, c.to.day), "MonthEnd of %v", c.from)
	}
}

// TestAddMonths is of P5.2, written out: the number of months leads from one day to the other.
func TestAddMonths(t *testing.T) {
	for _, c := range []struct {
		from   civil
		months int
		to     civil
	}{
		{civil{2024, 1, 31}, 1, civil{2024, 2, 29}}, {civil{2024, 1, 31}, 13, civil{2025, 2, 28}},
		{civil{2026, 11, 20}, 0, civil{2026, 11, 20}}, {civil{2026, 11, 20}, 1, civil{2026, 12, 20}}, {civil{2026, 11, 20}, -1, civil{2026, 10, 20}},
		// over the end of a year
		{civil{2026, 11, 20}, 2, civil{2027, 1, 20}}, {civil{2026, 12, 31}, 1, civil{2027, 1, 31}}, {civil{2026, 12, 31}, 2, civil{2027, 2, 28}}, {civil{2026, 1, 1}, -1, civil{2025, 12, 1}}, {civil{2026, 1, 31}, -2, civil{2025, 11, 30}}, {civil{2026, 3, 15}, -15, civil{2024, 12, 15}}, {civil{2026, 3, 15}, -14, civil{2025, 1, 15}},
		// years
		{civil{2026, 11, 20}, 12, civil{2027, 11, 20}}, {civil{2026, 11, 20}, -12, civil{2025, 11, 20}}, {civil{2024, 2, 29}, 12, civil{2025, 2, 28}}, {civil{2024, 2, 29}, -12, civil{2023, 2, 28}}, {civil{2024, 2, 29}, 48, civil{2028, 2, 29}}, {civil{2025, 2, 28}, -12, civil{2024, 2, 28}}, {civil{2096, 2, 29}, 48, civil{2100, 2, 28}}, {civil{2104, 2, 29}, -48, civil{2100, 2, 28}}, {civil{2000, 2, 29}, 1200, civil{2100, 2, 28}},
		// from the last days of a month
		{civil{2026, 1, 28}, 1, civil{2026, 2, 28}}, {civil{2026, 1, 29}, 1, civil{2026, 2, 28}}, {civil{2026, 1, 30}, 1, civil{2026, 2, 28}}, {civil{2026, 1, 31}, 1, civil{2026, 2, 28}},
		{civil{2024, 3, 28}, -1, civil{2024, 2, 28}}, {civil{2024, 3, 29}, -1, civil{2024, 2, 29}}, {civil{2024, 3, 30}, -1, civil{2024, 2, 29}}, {civil{2024, 3, 31}, -1, civil{2024, 2, 29}},
		{civil{2026, 3, 29}, 1, civil{2026, 4, 29}}, {civil{2026, 3, 30}, 1, civil{2026, 4, 30}}, {civil{2026, 3, 31}, 1, civil{2026, 4, 30}}, {civil{2026, 7, 31}, 1, civil{2026, 8, 31}}, {civil{2026, 8, 31}, -1, civil{2026, 7, 31}}, {civil{2026, 4, 30}, 1, civil{2026, 5, 30}}, {civil{2026, 2, 28}, 1, civil{2026, 3, 28}}, {civil{2026, 11, 30}, 3, civil{2027, 2, 28}},
		// from one end of the calendar to the other
		{civil{2000, 1, 1}, 2399, civil{2199, 12, 1}}, {civil{2000, 1, 31}, 2399, civil{2199, 12, 31}}, {civil{2000, 1, 31}, 2398, civil{2199, 11, 30}}, {civil{2199, 12, 1}, -2399, civil{2000, 1, 1}}, {civil{2199, 12, 31}, -2399, civil{2000, 1, 31}}, {civil{2199, 12, 31}, -2398, civil{2000, 2, 29}}, {civil{2199, 12, 31}, 0, civil{2199, 12, 31}}, {civil{2000, 1, 1}, 0, civil{2000, 1, 1}},
	} {
		n := on(t, c.from.year, c.from.month, c.from.day)
		call(date.AddMonths(n, c.months)).is(t, on(t, c.to.year, c.to.month, c.to.day), "AddMonths of %v by %d", c.from, c.months)
	}
}

// TestBeyond is of P5.2: months that are in no year of the calendar.
func TestBeyond(t *testing.T) {
	for _, c := range []struct {
		from civil
		back int // the first number of months that leads to 1999
	}{
		{civil{2000, 1, 1}, -1}, {civil{2000, 1, 31}, -1}, {civil{2000, 2, 29}, -2}, {civil{2000, 12, 31}, -12}, {civil{2026, 11, 20}, -323}, {civil{2199, 12, 1}, -2400}, {civil{2199, 12, 31}, -2400},
	} {
		n := on(t, c.from.year, c.from.month, c.from.day)
		for _, months := range []int{c.back, c.back - 1, c.back - 12, -2400, -2401, -1 << 32, least, least + 1, c.back + 2401, c.back + 2402, c.back + 2413, 2400, 2401, 1 << 32, most - 1, most} {
			call(date.AddMonths(n, months)).fails(t, api.ErrCivil, "AddMonths of %v by %d", c.from, months)
		}
		call(date.AddMonths(n, c.back+1)).of(t, "AddMonths of %v by %d", c.from, c.back+1)
		call(date.AddMonths(n, c.back+2400)).of(t, "AddMonths of %v by %d", c.from, c.back+2400)
	}
}

// TestAllMonths is of P5.2: all days with months of all sizes, against package time.
func TestAllMonths(t *testing.T) {
	for n, day := range calendar() {
		for _, months := range []int{0, 1, -1, 2, -2, 7, -7, 11, -11, 12, -12, 13, -13, 48, -48, 1199, -1199, 2399, -2399} {
			first := at(day.Year(), int(day.Month())+months, 1)
			r := call(date.AddMonths(n, months))
			if first.Year() < 2000 || first.Year() > 2199 {
				r.fails(t, api.ErrCivil, "AddMonths(%d, %d)", n, months)
				continue
			}
			last := first.AddDate(0, 1, -1).Day()
			r.is(t, int(first.Sub(at(2000, 1, 1)).Hours())/24+min(day.Day(), last)-1, "AddMonths(%d, %d)", n, months)
		}
	}
}
