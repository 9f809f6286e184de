// Package words: lists of words as numbers of any length, the lowest word first, without a limit: what nat, quot,
// radix, near and lex are made of. Calls that give a list give new memory; all others change the first list in place.
package words

import "plumb/wide"

// Bits tells how many bits a word has.
const Bits = 64

// Trim gives x without the words 0 at its high end: the same memory, so no answer of a layer unless x is new.
func Trim(x []uint64) []uint64 {
	n := len(x)
	for n > 0 && x[n-1] == 0 {
		n--
	}
	return x[:n]
}

// Up gives x times two to the n, as a normal list; n is at least 0.
func Up(x []uint64, n int) []uint64 {
	x = Trim(x)
	if len(x) == 0 {
		return nil
	}
	whole := n / Bits
	out := make([]uint64, whole+len(x)+1)
	copy(out[whole:], x)
	ShiftUp(out[whole:], n%Bits)
	return Trim(out)
}

// Down gives x by two to the n, rounded down, as a normal list; n is at least 0.
func Down(x []uint64, n int) []uint64 {
	x = Trim(x)
	x = x[min(n/Bits, len(x)):]
	out := make([]uint64, len(x))
	copy(out, x)
	ShiftDown(out, n%Bits)
	return Trim(out)
}

// ShiftUp shifts x by less than a word to the left; no bit 1 leaves it.
func ShiftUp(x []uint64, n int) {
	below := uint64(0)
	for i, w := range x {
		x[i], _ = wide.Shl(w, below, n)
		below = w
	}
}

// ShiftDown shifts x by less than a word to the right; what falls off is lost.
func ShiftDown(x []uint64, n int) {
	above := uint64(0)
	for i := len(x) - 1; i >= 0; i-- {
		w := x[i]
		_, x[i], _ = wide.Shr(above, w, n)
		above = w
	}
}

// AddTo adds x, which is no longer, to total, and gives what is carried out of it.
func AddTo(total []uint64, x []uint64) uint64 {
	carry := uint64(0)
	for i, w := range x {
		total[i], carry = wide.Add(total[i], w, carry)
	}
	for i := len(x); carry != 0 && i < len(total); i++ {
		total[i], carry = wide.Add(total[i], 0, carry)
	}
	return carry
}

// TakeFrom takes x, which is no greater, away from rest.
func TakeFrom(rest []uint64, x []uint64) {
	borrow := uint64(0)
	for i, w := range x {
		rest[i], borrow = wide.Sub(rest[i], w, borrow)
	}
	for i := len(x); borrow != 0; i++ {
		rest[i], borrow = wide.Sub(rest[i], 0, borrow)
	}
}

// AddTimes adds y * w to as many words of total, and gives the word that is carried out of them.
func AddTimes(total []uint64, y []uint64, w uint64) uint64 {
	on := uint64(0)
	for i := range y {
		hi, lo := wide.Mul(y[i], w)
		lo, carry := wide.Add(lo, total[i], 0)
		hi += carry
		total[i], carry = wide.Add(lo, on, 0)
		// Neither carry leaves hi: (2^64 - 1)^2 + 2 * (2^64 - 1) is 2^128 - 1.
		on = hi + carry
	}
	return on
}

// Times multiplies x by w and adds on, and gives the word that is carried out of x.
func Times(x []uint64, w uint64, on uint64) uint64 {
	for i := range x {
		hi, lo := wide.Mul(x[i], w)
		var carry uint64
		x[i], carry = wide.Add(lo, on, 0)
		// The carry doesn't leave hi: (2^64 - 1)^2 + 2^64 - 1 is below 2^128.
		on = hi + carry
	}
	return on
}

// TakeTimes takes y * w away from as many words of rest, and gives the word that is borrowed from above them.
func TakeTimes(rest []uint64, y []uint64, w uint64) uint64 {
	on := uint64(0)
	for i := range y {
		hi, lo := wide.Mul(y[i], w)
		lo, carry := wide.Add(lo, on, 0)
		var borrow uint64
		rest[i], borrow = wide.Sub(rest[i], lo, 0)
		// Both together don't leave hi: the product and on are at most (2^64 - 1) * 2^64, and there lo is 0.
		on = hi + carry + borrow
	}
	return on
}
