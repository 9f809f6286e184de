// Package wide: words of 64 bits by words alone: sums with carry, products of 128 bits and more, quotients: see shared/doc/01-wide.md.
package wide

import "plumb/api"

const (
	wordBits = 64
	twoWords = 2 * wordBits
	halfBits = wordBits / 2
	halfMask = 1<<halfBits - 1
)

// Add gives a + b + carry (carry 0 or 1; any other number counts by its lowest bit) and what is carried on.
func Add(a uint64, b uint64, carry uint64) (uint64, uint64) {
	sum := a + b + carry&1
	// Without a branch, since the carries of long sums follow no pattern: the highest bits carry on
	// if both are 1, or if one is 1 and the sum's is 0.
	return sum, (a&b | (a|b)&^sum) >> (wordBits - 1)
}

// Sub gives a - b - borrow (borrow counts by its lowest bit), and what is borrowed.
func Sub(a uint64, b uint64, borrow uint64) (uint64, uint64) {
	diff := a - b - borrow&1
	// The highest bits borrow if only b's is 1, or if both are alike and the difference's is 1.
	return diff, (b&^a | ^(a^b)&diff) >> (wordBits - 1)
}

// Mul gives the product, the higher word first.
func Mul(a uint64, b uint64) (uint64, uint64) {
	halves := [2]uint64{a & halfMask, a >> halfBits}
	low, high := b&halfMask, b>>halfBits
	hi, lo := uint64(0), uint64(0)
	for i := range len(halves) {
		// No sum leaves a word: (2^32 - 1)^2 + 2 * (2^32 - 1) is 2^64 - 1.
		part := halves[i]*low + hi&halfMask
		hi = halves[i]*high + hi>>halfBits + part>>halfBits
		// The part's lower half is final: it comes in from above, and pushes the one before it down.
		lo = join(part, lo>>halfBits)
	}
	return hi, lo
}

// Mul3 gives the product of a number of two words and one of one: three words, the highest first.
func Mul3(hi uint64, lo uint64, b uint64) (uint64, uint64, uint64) {
	lowTop, low := Mul(lo, b)
	top, mid := Mul(hi, b)
	mid, carry := Add(mid, lowTop, 0)
	// Nothing is carried out of top: the whole product is below 2^192.
	return top + carry, mid, low
}

// Div gives quotient and rest of a number of two words.
func Div(hi uint64, lo uint64, b uint64) (uint64, uint64, api.Errno) {
	if b == 0 {
		return 0, 0, api.ErrDivisor
	}
	if hi >= b {
		return 0, 0, api.ErrQuotient
	}
	// A divisor whose highest bit is 1 makes the guesses of divHalf good; hi is below b, so no bit of it is lost.
	shift := wordBits - Len(b)
	b <<= shift
	hi, lo = Shl(hi, lo, shift)
	high, rest := divHalf(hi, lo>>halfBits, b)
	low, rest := divHalf(rest, lo&halfMask, b)
	return join(high, low), rest >> shift, api.OK
}

// divHalf gives quotient (half a word) and rest of top * 2^32 + next by b, where top is below b and b's highest bit is 1.
func divHalf(top uint64, next uint64, b uint64) (uint64, uint64) {
	low, high := b&halfMask, b>>halfBits
	q := top / high
	r := top % high
	// The guess by the divisor's higher half is never too small, and at most 2 too great. It is at most
	// 2^32 + 1, so its product with a half fits a word. Once r is 2^32 or more, it is right.
	for r <= halfMask && q*low > join(r, next) {
		q--
		r += high
	}
	// What falls off above cancels: the rest is below b.
	return q, join(top, next) - q*b
}

// join gives hi * 2^32 + lo modulo 2^64, where lo is half a word.
func join(hi uint64, lo uint64) uint64 {
	return hi<<halfBits | lo
}

// Len tells how many bits a number has (0: none).
func Len(x uint64) int {
	n := 0
	for step := halfBits; step > 0; step /= 2 {
		if x>>step != 0 {
			x >>= step
			n += step
		}
	}
	return n + int(x)
}

// Zeros tells how many bits 0 stand at its low end (of 0: 64).
func Zeros(x uint64) int {
	if x == 0 {
		return wordBits
	}
	return Len(x&-x) - 1
}

// Shl shifts two words to the left; n below 0 counts as 0, above 128 as 128.
func Shl(hi uint64, lo uint64, n int) (uint64, uint64) {
	n = within(n)
	if n >= wordBits {
		return lo << (n - wordBits), 0
	}
	return hi<<n | lo>>(wordBits-n), lo << n
}

// Shr shifts two words to the right; and tells whether a bit 1 was lost.
func Shr(hi uint64, lo uint64, n int) (uint64, uint64, bool) {
	n = within(n)
	if n >= wordBits {
		return 0, hi >> (n - wordBits), lo != 0 || hi<<(twoWords-n) != 0
	}
	return hi >> n, hi<<(wordBits-n) | lo>>n, lo<<(wordBits-n) != 0
}

// within holds a shift between 0 and 128: a shift below 0 would panic.
func within(n int) int {
	return min(max(n, 0), twoWords)
}

// Cmp compares two numbers of two words: -1, 0 or 1.
func Cmp(ahi uint64, alo uint64, bhi uint64, blo uint64) int {
	if ahi != bhi {
		return order(ahi, bhi)
	}
	return order(alo, blo)
}

// order compares two words.
func order(a uint64, b uint64) int {
	if a < b {
		return -1
	}
	if a > b {
		return 1
	}
	return 0
}
