package expand

import (
	"bytes"

	"plumb/api"
	"plumb/f64"
	"plumb/near"
	"plumb/rat"
)

// A span is the interval of the numbers that are rounded to a pattern: rows of digits under one another, all behind the
// same power of ten and without zeros at their end. So one row is the greater number just if it is the greater list of
// bytes. The pattern's own row begins with a 0: so the number above any of its beginnings is no longer than that.
type span struct {
	low, own, high []byte
	taken          bool // whether low and high are rounded to the pattern themselves
	top            int  // the exponent of that power of ten
}

// spanOf gives the interval of a pattern, whose number without a sign is own and not 0.
func spanOf(b uint64, own decimal) span {
	neg, mant, _, _ := f64.Split(b)
	size := b
	if neg {
		size = f64.Neg(b)
	}
	low, high := ends(size)
	// No end is twice as great as the number: one digit more has room for it.
	top := own.top() + 1
	return span{
		low:   decimalOf(low).behind(top),
		own:   own.behind(top),
		high:  decimalOf(high).behind(top),
		taken: mant%2 == 0,
		top:   top,
	}
}

// ends gives the middles between a size, which is not 0, and its neighbours'.
func ends(size uint64) (api.Rat, api.Rat) {
	// Never refused: the next lesser pattern is neither the least nor the greatest.
	below, _ := f64.Prev(size)
	low, _ := near.Mid(below)
	high, bad := near.Mid(size)
	if bad == api.OK {
		return low, high
	}
	// The greatest pattern has no neighbour above: there numbers overflow from as far above it on as the middle lies below.
	value, _ := near.Value(size)
	reach, _ := rat.Sub(value, low)
	high, _ = rat.Add(value, reach)
	return low, high
}

// behind gives the digits of a number, which is below ten to the top, from that power of ten on.
func (d decimal) behind(top int) []byte {
	ahead := top - d.top()
	row := zeros(ahead + len(d.digits))
	copy(row[ahead:], d.digits)
	return row
}

// shortest gives the number of the interval that has the fewest digits; of these the nearest to the pattern's own, of two
// as near the even one. All numbers with so few digits are counted in one power of ten, but in the interval of the
// pattern 2: 8e-324 and 9e-324 have one digit too, but 1e-323, which is found first, is nearer.
func (s span) shortest() decimal {
	for n := 1; n < len(s.own); n++ {
		if row, found := s.nearest(n); found {
			return s.decimal(row)
		}
	}
	return s.decimal(s.own)
}

// nearest gives of the numbers in the interval that are rows of n digits the nearest to the pattern's own: that is one of
// the two next to it, for where neither lies in the interval no other does.
func (s span) nearest(n int) ([]byte, bool) {
	head, tail := cut(s.own, n)
	below, above := head, next(head)
	switch {
	case !s.holds(above):
		return below, s.holds(below)
	case s.holds(below) && !goesUp(head, tail):
		return below, true
	}
	return above, true
}

// holds tells whether a row's number is rounded to the pattern.
func (s span) holds(row []byte) bool {
	row = bytes.TrimRight(row, "0")
	low, high := bytes.Compare(s.low, row), bytes.Compare(row, s.high)
	if s.taken {
		return low <= 0 && high <= 0
	}
	return low < 0 && high < 0
}

// decimal gives a row's number. Its last digit isn't 0: else a shorter row would have been found.
func (s span) decimal(row []byte) decimal {
	return decimal{digits: bytes.TrimLeft(row, "0"), exp: s.top - len(row)}
}
