package decimal

import (
	"strconv"
	"strings"

	"fundadmin/api"
	"fundadmin/bigint"
	"fundadmin/ratio"
)

const (
	wholeDigits   = 15 // a decimal has at most so many digits before the point
	percentPlaces = 6
)

// Parse returns the number that a decimal denotes.
func Parse(s string, places int) (api.Ratio, api.Errno) {
	if !isPlaces(places) {
		return api.Ratio{}, api.ErrPlaces
	}
	digits, minus := strings.CutPrefix(s, "-")
	whole, fraction, point := strings.Cut(digits, ".")
	if !isWhole(whole) || point && !isDigits(fraction, places) {
		return api.Ratio{}, api.ErrDecimal
	}
	num, den := fractionOf(whole, fraction)
	if minus && bigint.Sign(num) == 0 {
		return api.Ratio{}, api.ErrDecimal
	}
	if minus {
		num = bigint.Neg(num)
	}
	return ratio.Make(num, den)
}

// Format returns the decimal of n / 10^places.
func Format(n, places int) (string, api.Errno) {
	if !isPlaces(places) {
		return "", api.ErrPlaces
	}
	if !isAmount(n) {
		return "", api.ErrRange
	}
	return pointed(strconv.Itoa(n), places), api.OK
}

// Text returns the shortest decimal of r.
func Text(r api.Ratio, places int) (string, api.Errno) {
	n, e := scaled(r, places)
	if e != api.OK {
		return "", e
	}
	number := bigint.Format(n.below)
	if !n.whole() || len(strings.TrimPrefix(number, "-")) > wholeDigits+places {
		return "", api.ErrDecimal
	}
	text := pointed(number, places)
	if places == 0 {
		return text, api.OK
	}
	// The point is there, so that no zero before it is taken away.
	return strings.TrimSuffix(strings.TrimRight(text, "0"), "."), api.OK
}

// Percent returns the number that a percentage denotes.
func Percent(s string) (api.Ratio, api.Errno) {
	number, percent := strings.CutSuffix(s, "%")
	if !percent || strings.HasPrefix(number, "-") {
		return api.Ratio{}, api.ErrDecimal
	}
	r, e := Parse(number, percentPlaces)
	if e != api.OK {
		return api.Ratio{}, e
	}
	return ratio.Quo(r, ratio.Whole(100))
}

// PercentText returns the percentage of r.
func PercentText(r api.Ratio) (string, api.Errno) {
	sign, e := ratio.Sign(r)
	if e != api.OK {
		return "", e
	}
	number, e := ratio.Mul(r, ratio.Whole(100))
	// What is too long for a ratio is too long for a decimal too.
	if sign < 0 || e != api.OK {
		return "", api.ErrDecimal
	}
	text, e := Text(number, percentPlaces)
	if e != api.OK {
		return "", e
	}
	return text + "%", api.OK
}

// isWhole reports whether s may stand before the point.
func isWhole(s string) bool {
	return isDigits(s, wholeDigits) && (s[0] != '0' || len(s) == 1)
}

// isDigits reports whether s is 1 to most digits.
func isDigits(s string, most int) bool {
	if len(s) == 0 || len(s) > most {
		return false
	}
	for i := range len(s) {
		if s[i] < '0' || s[i] > '9' {
			return false
		}
	}
	return true
}

// fractionOf returns the parts, not reduced, of the number with these digits before and behind the point.
func fractionOf(whole, fraction string) (num, den api.Int) {
	den = bigint.FromInt(tenTo(len(fraction)))
	num, _ = bigint.Mul(count(whole), den)
	num, _ = bigint.Add(num, count(fraction))
	return num, den
}

// count returns the number that digits denote, of which there are never too many for an int; no digits denote 0.
func count(digits string) api.Int {
	n := 0
	for i := range len(digits) {
		n = 10*n + int(digits[i]-'0')
	}
	return bigint.FromInt(n)
}

// pointed returns the text of a whole number with a point before its last places.
func pointed(number string, places int) string {
	if places == 0 {
		return number
	}
	digits, minus := strings.CutPrefix(number, "-")
	// At least one digit stands before the point.
	if missing := places + 1 - len(digits); missing > 0 {
		digits = strings.Repeat("0", missing) + digits
	}
	point := len(digits) - places
	text := digits[:point] + "." + digits[point:]
	if minus {
		return "-" + text
	}
	return text
}
