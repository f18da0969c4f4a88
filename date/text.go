package date

import (
	"strconv"

	"fundadmin/api"
)

// Parse returns the day that a text denotes.
func Parse(s string) (int, api.Errno) {
	if !isDateText(s) {
		return 0, api.ErrDateText
	}
	return FromCivil(number(s[:4]), number(s[5:7]), number(s[8:]))
}

// Format returns the text of a day.
func Format(n int) (string, api.Errno) {
	year, month, day, e := Civil(n)
	if e != api.OK {
		return "", e
	}
	return strconv.Itoa(year) + "-" + twoDigits(month) + "-" + twoDigits(day), api.OK
}

// isDateText reports whether a text is of the form of a date, be there such a date or not.
func isDateText(s string) bool {
	if len(s) != len("2000-01-01") {
		return false
	}
	return isDigits(s[:4]) && s[4] == '-' && isDigits(s[5:7]) && s[7] == '-' && isDigits(s[8:])
}

func isDigits(s string) bool {
	for i := range len(s) {
		if s[i] < '0' || s[i] > '9' {
			return false
		}
	}
	return true
}

// number returns the number that at most four digits denote.
func number(digits string) int {
	// Nothing but digits is passed, so there is no error; and a sign, which Atoi would take, is none of them.
	n, _ := strconv.Atoi(digits)
	return n
}

// twoDigits writes a number below 100, with a zero before a single digit.
func twoDigits(n int) string { return strconv.Itoa(100 + n)[1:] }
