package power

import (
	"math"
	"testing"
)

// P8.3: the next greater number of 128 bits, with a carry from word to word, and where it is 2^128 in the frame above.
// (No power of the table asks for the last: so it is held here, from inside.)
func TestNext(t *testing.T) {
	const most, top = math.MaxUint64, 1 << 63
	for _, c := range []struct{ from, want framed }{
		{framed{bits: [2]uint64{top, 0}, frame: 5}, framed{bits: [2]uint64{top, 1}, frame: 5}},
		{framed{bits: [2]uint64{top, most}, frame: -5}, framed{bits: [2]uint64{top + 1, 0}, frame: -5}},
		{framed{bits: [2]uint64{most, most - 1}, frame: 0}, framed{bits: [2]uint64{most, most}, frame: 0}},
		{framed{bits: [2]uint64{most, most}, frame: -3}, framed{bits: [2]uint64{top, 0}, frame: -2}},
	} {
		if got := next(c.from); got != c.want {
			t.Errorf("next(%v) = %v, want %v", c.from, got, c.want)
		}
	}
}
