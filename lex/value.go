package lex

import (
	"plumb/api"
	"plumb/radix"
	"plumb/rat"
	"plumb/words"
)

const maxBits = api.MaxLimbs * words.Bits

// Value gives its number.
func Value(n api.Numeral) (api.Rat, api.Errno) {
	if Check(n) != api.OK {
		return api.Rat{}, api.ErrNumeral
	}
	if n.Kind == api.Ratio && n.Den == "" {
		return api.Rat{}, api.ErrZeroDen
	}
	if n.Num == "" {
		return rat.Int(0), api.OK
	}
	switch n.Kind {
	case api.Ratio:
		return rat.New(n.Neg, number(n.Num, 10), number(n.Den, 10))
	case api.Hexa:
		power, e := two(distance(n.Exp))
		return scaled(n, number(n.Num, 16), power, e)
	}
	power, e := radix.Ten(distance(n.Exp))
	return scaled(n, number(n.Num, 10), power, e)
}

// number gives what digits say. None is refused: MaxText digits of the base 16 have just MaxLimbs words.
func number(s string, base int) []uint64 {
	x, _ := radix.Parse(s, base)
	return x
}

// distance tells how far an exponent is from 0.
func distance(exp int) int {
	return max(exp, -exp)
}

// two gives two to the n.
func two(n int) ([]uint64, api.Errno) {
	if n >= maxBits {
		return nil, api.ErrHuge
	}
	return words.Up([]uint64{1}, n), api.OK
}

// scaled gives the number num of n's digits times its power, or by it, where the exponent is below 0; the power's error
// is handed on.
func scaled(n api.Numeral, num []uint64, power []uint64, e api.Errno) (api.Rat, api.Errno) {
	if e != api.OK {
		return api.Rat{}, e
	}
	if n.Exp < 0 {
		return rat.New(n.Neg, num, power)
	}
	a, _ := rat.New(n.Neg, num, []uint64{1})
	b, _ := rat.New(false, power, []uint64{1})
	return rat.Mul(a, b)
}
