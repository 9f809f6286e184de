package ryu

import (
	"plumb/power"
	"plumb/wide"
)

// A scale brings counts of two to the twos to counts of ten to the tens. What it is given is above 0 and below 2^55.
type scale struct {
	twos, tens int
	hi, lo     uint64 // by what a count is multiplied, times two to the down
	down       int
}

// scaleOf gives a scale where ten to the tens is more than a hundredth of two to the twos, and at most a tenth: so what it
// answers is below 2^62, and an interval, which is three or four times two to the twos, has room for a multiple of ten.
func scaleOf(twos int) scale {
	// Neither is refused: the exponents of patterns lie well within what is asked for.
	log, _ := power.Log10(twos)
	tens := log - 1
	hi, lo, frame, _ := power.Above(-tens)
	return scale{twos: twos, tens: tens, hi: hi, lo: lo, down: tens - twos - frame}
}

// floor gives a count's number, rounded down. The power of five is rounded up, and so what is cut here is a hair too
// great; but no count's number lies so near below a whole one that this would reach it (a test shows it for every
// scale), and of numbers that are whole themselves none falls below.
func (s scale) floor(count uint64) uint64 {
	// From 121 to 124 bits fall off, the lowest word with them.
	top, next, _ := wide.Mul3(s.hi, s.lo, count)
	_, out, _ := wide.Shr(top, next, s.down-64)
	return out
}

// whole tells whether a count's number is a whole one: count times two to the (twos - tens) by five to the tens.
func (s scale) whole(count uint64) bool {
	return wide.Zeros(count) >= s.tens-s.twos && fives(count, s.tens)
}

// fives tells whether five to the n divides a count.
func fives(count uint64, n int) bool {
	for ; n > 0; n-- {
		if count%5 != 0 {
			return false
		}
		count /= 5
	}
	return true
}

// least gives the least whole number above a count's number, or, if taken, not below it.
func (s scale) least(count uint64, taken bool) uint64 {
	if taken && s.whole(count) {
		return s.floor(count)
	}
	return s.floor(count) + 1
}

// greatest gives the greatest whole number below a count's number, or, if taken, not above it.
func (s scale) greatest(count uint64, taken bool) uint64 {
	if !taken && s.whole(count) {
		return s.floor(count) - 1
	}
	return s.floor(count)
}
