package near

import (
	"plumb/api"
	"plumb/f64"
	"plumb/nat"
	"plumb/rat"
)

// Value gives a pattern's number (of -0: 0).
func Value(b uint64) (api.Rat, api.Errno) {
	neg, mant, exp, e := f64.Split(b)
	if e != api.OK {
		return api.Rat{}, e
	}
	return binary(neg, mant, exp), api.OK
}

// Mid gives the number in the middle between a pattern's number and the next greater one.
func Mid(b uint64) (api.Rat, api.Errno) {
	next, e := f64.Next(b)
	if e != api.OK {
		return api.Rat{}, e
	}
	// Half a place is that of the one nearer to 0: the other may be the first of wider places.
	order, _ := f64.Cmp(b, 0)
	inner := b
	if order < 0 {
		inner = next
	}
	_, mant, exp, _ := f64.Split(inner)
	return binary(order < 0, 2*mant+1, exp-1), api.OK
}

// Exact tells whether a rational number is just a pattern's, and which.
func Exact(r api.Rat) (uint64, bool) {
	if rat.Check(r) != api.OK {
		return 0, false
	}
	below := nat.Zeros(r.Den)
	if nat.Bits(r.Den) != below+1 {
		return 0, false
	}
	odd, above := withoutTwos(r.Num)
	mant, isWord := nat.Word(odd)
	if !isWord {
		return 0, false
	}
	b, e := f64.Join(r.Neg, mant, above-below)
	return b, e == api.OK
}

// binary gives mant times two to the exp, below 0 if neg.
func binary(neg bool, mant uint64, exp int) api.Rat {
	if mant == 0 {
		return rat.Int(0)
	}
	num, twos := withoutTwos(nat.From(mant))
	exp += twos
	// In lowest terms as they are: num is odd, or there is no denominator but 1. Never too long: no pattern's is.
	num, _ = nat.Shl(num, max(exp, 0))
	den, _ := nat.Shl(nat.From(1), max(-exp, 0))
	return api.Rat{Neg: neg, Num: num, Den: den}
}

// withoutTwos gives x divided by two as often as that goes, and how often it went.
func withoutTwos(x []uint64) ([]uint64, int) {
	twos := nat.Zeros(x)
	odd, _, _ := nat.Shr(x, twos)
	return odd, twos
}
