package lemire

import (
	"plumb/api"
	"plumb/f64"
	"plumb/wide"
)

const (
	wordBits = 64
	mantBits = 53    // of a normal pattern's mantissa
	leastExp = -1074 // of the least subnormal
)

// raised shifts a word, which isn't 0, up until its highest bit is 1, and tells how far that was.
func raised(word uint64) (uint64, int) {
	up := wordBits - wide.Len(word)
	_, word = wide.Shl(0, word, up)
	return word, up
}

// rounded gives word times two to the exp, to the nearest, a tie to the even one; lost tells that the number is greater
// by less than the word's lowest bit. The word has more bits than a mantissa: so what was lost lies behind the first bit
// that is rounded off, and decides ties alone.
func rounded(word uint64, lost bool, exp int) (uint64, api.Errno) {
	word, up := raised(word)
	exp -= up
	at := max(exp+wordBits-mantBits, leastExp)
	// What falls off behind the rest as well, far below the least subnormal, decides nothing: the rest is below half then.
	kept, rest, _ := wide.Shr(word, 0, at-exp)
	if upward(kept, rest, lost) {
		kept++
	}
	// A mantissa of so few bits is refused only where it is too great, be it for the step up or ahead of it.
	out, bad := f64.Join(false, kept, at)
	if bad != api.OK {
		return 0, api.ErrOverflow
	}
	return out, api.OK
}

// upward tells whether a mantissa goes on to the next one: rest is what lies behind it, in parts of 2^64, and more
// whether that is a little greater.
func upward(kept uint64, rest uint64, more bool) bool {
	const half = 1 << (wordBits - 1)
	if rest == half && !more {
		return kept%2 == 1
	}
	return rest >= half
}
