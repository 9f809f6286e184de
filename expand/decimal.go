package expand

import (
	"bytes"

	"plumb/api"
	"plumb/nat"
	"plumb/near"
	"plumb/radix"
)

// A decimal is a number without its sign: the whole number of its digits times ten to the exp. Neither the first digit
// nor the last is 0; but zero is one digit 0, with the exponent 0.
type decimal struct {
	digits []byte
	exp    int
}

// top gives the exponent of the least power of ten that is above the number, if that isn't 0.
func (d decimal) top() int {
	return len(d.digits) + d.exp
}

// sizeOf gives the number of a pattern.
func sizeOf(b uint64) (decimal, api.Errno) {
	value, bad := near.Value(b)
	if bad != api.OK {
		return decimal{}, bad
	}
	return decimalOf(value), api.OK
}

// decimalOf gives a number whose denominator is a power of two: each half is five tenths. Nothing is refused here: the
// numbers of patterns and their middles have few words.
func decimalOf(r api.Rat) decimal {
	places := nat.Zeros(r.Den)
	fives, _ := radix.Five(places)
	whole, _ := nat.Mul(r.Num, fives)
	whole, tens := radix.Trim(whole)
	text, _ := radix.Text(whole, 10)
	return decimal{digits: []byte(text), exp: tens - places}
}

// cut gives the first n digits, and those behind them; neither has spare room, so that what is appended to the one, as a
// point is, never writes over the other.
func cut(digits []byte, n int) ([]byte, []byte) {
	return digits[:n:n], digits[n:len(digits):len(digits)]
}

// rounded gives the whole number that a row's first n digits are, rounded by those behind them, of which the last isn't
// 0: n digits, or n + 1, if all were 9. A row that is shorter goes on with zeros.
func rounded(digits []byte, n int) []byte {
	// Zeros stand ahead of the first digit then: the number is less than a tenth of what counts.
	if n < 0 {
		return nil
	}
	if n >= len(digits) {
		out := zeros(n)
		copy(out, digits)
		return out
	}
	head, tail := cut(digits, n)
	if goesUp(head, tail) {
		return next(head)
	}
	return head
}

// goesUp tells whether head, with tail behind it, is nearer to the next whole number; of two as near the even one counts.
func goesUp(head []byte, tail []byte) bool {
	// The last digit isn't 0: so whatever stands behind a 5 makes it more than a half.
	half := bytes.Compare(tail, []byte{'5'})
	// The bytes of odd digits are odd.
	odd := len(head) > 0 && head[len(head)-1]%2 == 1
	return half > 0 || half == 0 && odd
}

// next gives the whole number above that of the digits, in memory of its own.
func next(digits []byte) []byte {
	out := make([]byte, len(digits))
	copy(out, digits)
	for i := len(out) - 1; i >= 0; i-- {
		if out[i] != '9' {
			out[i]++
			return out
		}
		out[i] = '0'
	}
	return append([]byte{'1'}, out...)
}

// zeros gives so many zeros.
func zeros(n int) []byte {
	return bytes.Repeat([]byte{'0'}, n)
}

// pointed writes a whole number of tens to the -n: at least one digit, and n behind a point, if n isn't 0.
func pointed(whole []byte, n int) string {
	row := zeros(max(len(whole), n+1))
	copy(row[len(row)-len(whole):], whole)
	ahead, behind := cut(row, len(row)-n)
	if n == 0 {
		return string(ahead)
	}
	return string(append(append(ahead, '.'), behind...))
}
