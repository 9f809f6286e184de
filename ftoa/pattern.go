package ftoa

import (
	"math/bits"
	"strconv"

	"plumb/f64"
	"plumb/ryu"
)

// From the least to the most the point may stand where a number is still written without an exponent.
const leastPoint, mostPoint = -5, 21

const hexDigits = "0123456789abcdef"

// A pattern is one that is finite and no zero. Its sign is written elsewhere: here it counts for nothing.
type pattern uint64

// decimal gives the shortest digits that are read back.
func (p pattern) decimal() decimal {
	whole, exp, _ := ryu.Shortest(uint64(p))
	digits := strconv.FormatUint(whole, 10)
	return decimal{digits: digits, point: len(digits) + exp}
}

func (p pattern) shortest() string {
	d := p.decimal()
	if d.point < leastPoint || d.point > mostPoint {
		return d.scientific()
	}
	return d.plain()
}

func (p pattern) scientific() string {
	return p.decimal().scientific()
}

func (p pattern) hexadecimal() string {
	_, mant, exp, _ := f64.Split(uint64(p))
	ahead := bits.LeadingZeros64(mant)
	text := []byte("0x1")
	// The first bit that is 1 is written already.
	behind := mant << ahead << 1
	if behind != 0 {
		text = append(text, '.')
	}
	for ; behind != 0; behind <<= 4 {
		text = append(text, hexDigits[behind>>60])
	}
	return string(text) + "p" + exponent(exp+63-ahead, 1)
}
