package date

// firstOf returns the first day of a month; month 13 is the first one of the next year.
func firstOf(year, month int) int { return newYear(year) + daysBefore(year, month) }

// newYear returns the first day of a year, which may be the one after the last.
func newYear(year int) int {
	return 365*(year-firstYear) + leapYears(year-1) - leapYears(firstYear-1)
}

// leapYears returns how many years from 1 to this one are leap years.
func leapYears(year int) int { return year/4 - year/100 + year/400 }

// daysBefore returns how many days of a year pass before a month; all of them pass before month 13.
func daysBefore(year, month int) int {
	days := 0
	switch month {
	case 13:
		days += 31
		fallthrough
	case 12:
		days += 30
		fallthrough
	case 11:
		days += 31
		fallthrough
	case 10:
		days += 30
		fallthrough
	case 9:
		days += 31
		fallthrough
	case 8:
		days += 31
		fallthrough
	case 7:
		days += 30
		fallthrough
	case 6:
		days += 31
		fallthrough
	case 5:
		days += 30
		fallthrough
	case 4:
		days += 31
		fallthrough
	case 3:
		days += 28
		if Leap(year) {
			days++
		}
		fallthrough
	case 2:
		days += 31
	}
	return days
}
