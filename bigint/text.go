package bigint

import (
	"strings"

	"fundadmin/api"
)

// maxDigits is the number of decimal digits of the greatest magnitude.
const maxDigits = 309

// Parse returns the number that a text denotes.
func Parse(s string) (api.Int, api.Errno) {
	digits, neg := strings.CutPrefix(s, "-")
	if !isNumber(digits) || neg && digits == "0" {
		return api.Int{}, api.ErrNumber
	}
	var m magnitude
	for i := range len(digits) {
		var carry uint32
		m, carry = appendDigit(m, digits[i]-'0')
		if carry != 0 {
			return api.Int{}, api.ErrOverflow
		}
	}
	return signed(neg, m), api.OK
}

// Format returns the text of a number.
func Format(x api.Int) string {
	if isZero(x.Mag) {
		return "0"
	}
	var text [1 + maxDigits]byte
	start := len(text)
	for rest := magnitude(x.Mag); !isZero(rest); {
		var digit uint32
		rest, digit = divideByLimb(rest, 10)
		start--
		text[start] = '0' + byte(digit)
	}
	if x.Neg {
		start--
		text[start] = '-'
	}
	return string(text[start:])
}

// isNumber reports whether s is 1 to maxDigits digits without a leading zero.
func isNumber(s string) bool {
	if len(s) == 0 || len(s) > maxDigits || len(s) > 1 && s[0] == '0' {
		return false
	}
	for i := range len(s) {
		if s[i] < '0' || s[i] > '9' {
			return false
		}
	}
	return true
}

// appendDigit returns 10 * m + digit, and what does not fit of it.
func appendDigit(m magnitude, digit byte) (magnitude, uint32) {
	carry := uint64(digit)
	for i, limb := range m {
		carry += uint64(limb) * 10
		m[i] = uint32(carry)
		carry >>= limbBits
	}
	return m, uint32(carry)
}
