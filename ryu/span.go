package ryu

// A span is the interval of a pattern, counted in units of a power of ten.
type span struct {
	low, high uint64 // the least and the greatest whole number of units that are taken to the pattern
	own       uint64 // the pattern's own number, rounded down
	last      uint64 // the digit behind own
	more      bool   // whether a digit other than 0 stands behind last
	tens      int    // a unit is ten to this
}

// spanOf gives the interval of mant times two to the exp in units so small that at least one digit can be taken away.
func spanOf(mant uint64, exp int) span {
	// The ends of an interval lie half a step away, or a quarter: in quarters all are whole.
	s := scaleOf(exp - 2)
	own := 4 * mant
	taken := mant%2 == 0
	return span{
		low:  s.least(own-reachDown(mant, exp), taken),
		high: s.greatest(own+2, taken),
		own:  s.floor(own),
		more: !s.whole(own),
		tens: s.tens,
	}
}

// reachDown gives how many quarters of a step an interval reaches down: below a power of two the steps are half as long,
// but not below the least normal number, where the subnormal ones lie as far apart.
func reachDown(mant uint64, exp int) uint64 {
	const leastMant, leastExp = 1 << 52, -1074
	if mant == leastMant && exp > leastExp {
		return 1
	}
	return 2
}

// shortest takes digits away for as long as a number is left.
func (s span) shortest() span {
taking:
	for {
		switch less := s.less(); {
		case less.low > less.high:
			break taking
		default:
			s = less
		}
	}
	return s
}

// less gives the span in units of ten times the size.
func (s span) less() span {
	return span{
		low:  (s.low + 9) / 10,
		high: s.high / 10,
		own:  s.own / 10,
		last: s.own % 10,
		more: s.more || s.last != 0,
		tens: s.tens + 1,
	}
}

// nearest gives of a span's whole numbers the one nearest to the pattern's own, of two as near the even one. They are all
// that have so few digits, but of the pattern 2: there 8e-324 and 9e-324 have one digit too, but 1e-323 is nearer.
func (s span) nearest() uint64 {
	out := s.own
	if s.last > 5 || s.last == 5 && (s.more || s.own%2 != 0) {
		out++
	}
	// The interval of a power of two may end above the nearest one. None ends below it: no interval reaches farther down
	// than up, and so it would hold none at all.
	return max(out, s.low)
}
