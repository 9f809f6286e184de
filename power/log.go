package power

import "plumb/api"

// mostTwo is how far from 0 the exponents are that Log10 takes.
const mostTwo = 1200

// Both logarithms are taken as a fraction with a power of two below it. It is so near that for no exponent that is
// asked for a whole number lies between that multiple of it and of the logarithm itself; and a shift of an int rounds
// down on both sides of 0.

// Log2 gives the greatest k with two to the k not above ten to the e.
func Log2(e int) (int, api.Errno) {
	if outside(e) {
		return 0, api.ErrFive
	}
	return e * 1741647 >> 19, api.OK
}

// Log10 gives the greatest k with ten to the k not above two to the e.
func Log10(e int) (int, api.Errno) {
	if e < -mostTwo || e > mostTwo {
		return 0, api.ErrFive
	}
	return e * 315653 >> 20, api.OK
}
