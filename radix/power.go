package radix

import (
	"plumb/api"
	"plumb/nat"
	"plumb/quot"
)

// The greatest powers of MaxLimbs words.
const (
	mostFive = 112899
	mostTen  = 78913
)

// Five gives five to the n.
func Five(n int) ([]uint64, api.Errno) {
	// Not left to Pow, which makes half of the way ahead of refusing.
	if n > mostFive {
		return nil, api.ErrHuge
	}
	return quot.Pow(nat.From(5), n)
}

// Ten gives ten to the n.
func Ten(n int) ([]uint64, api.Errno) {
	if n > mostTen {
		return nil, api.ErrHuge
	}
	five, e := Five(n)
	if e != api.OK {
		return nil, e
	}
	return nat.Shl(five, n)
}

// Count tells how many decimal digits a number has (of 0: 1).
func Count(x []uint64) int {
	bits := nat.Bits(x)
	if bits > maxBits {
		return 0
	}
	if bits == 0 {
		return 1
	}
	// Ten to the n is not above two to the bits - 1, nor is that above x: so x has at least n + 1 digits.
	n := tens(bits - 1)
	if n == tens(bits) {
		return n + 1
	}
	next, e := Ten(n + 1)
	if e != api.OK || nat.Cmp(x, next) < 0 {
		return n + 1
	}
	return n + 2
}

// tens gives the greatest n with ten to the n not above two to the bits, which are at most 325146: 97879/325147 is a
// convergent of the logarithm of 2, so no fraction of a smaller denominator lies between the two.
func tens(bits int) int {
	return bits * 97879 / 325147
}

// Trim divides by ten as often as it can be done, and tells how often (0: never).
func Trim(x []uint64) ([]uint64, int) {
	return strip(nat.Norm(x), nat.From(10), 1)
}

// strip divides x as often as it can be done by p, which is ten to the n (0: never), and tells how many tens these are.
// Where p divides, its square is asked next: so the steps are few however many the tens are.
func strip(x []uint64, p []uint64, n int) ([]uint64, int) {
	q, ok := divided(x, p, n)
	if !ok {
		return x, 0
	}
	x, count := stripSquare(q, p, n)
	count += n
	// Once at most, but where the square is too long to be asked.
	for q, ok = divided(x, p, n); ok; q, ok = divided(x, p, n) {
		x = q
		count += n
	}
	return x, count
}

// stripSquare is strip by the square of p, where that can be made and may divide.
func stripSquare(x []uint64, p []uint64, n int) ([]uint64, int) {
	if nat.Zeros(x) < 2*n {
		return x, 0
	}
	square, e := nat.Mul(p, p)
	if e != api.OK {
		return x, 0
	}
	return strip(x, square, 2*n)
}

// divided gives x by p, which is ten to the n, if p divides it: never what ends in fewer bits 0 than p, nor 0.
func divided(x []uint64, p []uint64, n int) ([]uint64, bool) {
	if nat.Zeros(x) < n {
		return nil, false
	}
	q, r, _ := quot.DivMod(x, p)
	return q, len(r) == 0
}
