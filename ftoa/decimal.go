package ftoa

import (
	"strconv"
	"strings"
)

// A decimal is the number 0.digits times ten to the point. Neither the first digit nor the last is 0.
type decimal struct {
	digits string
	point  int
}

// plain writes a decimal without an exponent.
func (d decimal) plain() string {
	switch n := len(d.digits); {
	case d.point <= 0:
		return "0." + zeros(-d.point) + d.digits
	case d.point < n:
		return d.digits[:d.point] + "." + d.digits[d.point:]
	default:
		return d.digits + zeros(d.point-n)
	}
}

// scientific writes a decimal with one digit ahead of the point.
func (d decimal) scientific() string {
	text := d.digits[:1]
	if len(d.digits) > 1 {
		text += "." + d.digits[1:]
	}
	return text + "e" + exponent(d.point-1, 2)
}

// exponent writes an exponent with its sign, and with so many digits at least.
func exponent(exp int, least int) string {
	sign := "+"
	if exp < 0 {
		sign, exp = "-", -exp
	}
	digits := strconv.Itoa(exp)
	return sign + zeros(max(least-len(digits), 0)) + digits
}

// zeros gives so many zeros.
func zeros(n int) string {
	return strings.Repeat("0", n)
}

// allDigits tells whether a text is digits alone, one at least.
func allDigits(s string) bool {
	for i := range len(s) {
		if s[i] < '0' || s[i] > '9' {
			return false
		}
	}
	return s != ""
}
