package atof

import (
	"strings"

	"plumb/api"
	"plumb/lemire"
	"plumb/nat"
	"plumb/near"
	"plumb/radix"
)

const (
	// A decimal below ten to this is less than half the least subnormal.
	leastTens = -324
	// A decimal of ten to this or more overflows.
	mostTens = 309
	// The middle between the greatest subnormal and the next pattern has so many digits; no other middle has more, and
	// in hexadecimal each has far fewer.
	mostDigits = 768
)

// A road gives the pattern of a numeral's number without its sign, or ErrOverflow; ErrUnsure: it can't tell.
type road func() (uint64, api.Errno)

// first gives what the first road says that is sure; the last one must be.
func first(roads []road) (uint64, api.Errno) {
	b, e := uint64(0), api.ErrUnsure
	for _, way := range roads {
		if b, e = way(); e != api.ErrUnsure {
			break
		}
	}
	return b, e
}

// roads gives the roads of a right numeral that isn't 0, the quickest first; the last is always sure.
func roads(n api.Numeral) []road {
	slow := slowRoad(shortened(n))
	if n.Kind != api.Decimal {
		return slow
	}
	// Without the zeros at its end a numeral is more often one that an exact step takes, or no tie by 128 bits.
	digits := strings.TrimRight(n.Num, "0")
	// Not refused: the digits of a right numeral are digits.
	mant, used, more, _ := lemire.Cut(digits)
	exp := n.Exp + len(n.Num) - used
	oneStep := func() (uint64, api.Errno) {
		b, ok := lemire.Small(mant, exp)
		if !ok || more {
			return 0, api.ErrUnsure
		}
		return b, api.OK
	}
	by128Bits := func() (uint64, api.Errno) {
		b, e := lemire.Fast(mant, exp)
		if !more {
			return b, e
		}
		// The number lies between that of mant and that of the next one: where both are rounded alike, so is it.
		next, f := lemire.Fast(mant+1, exp)
		if b != next || e != f {
			return 0, api.ErrUnsure
		}
		return b, e
	}
	return append([]road{oneStep, by128Bits}, slow...)
}

// shortened gives a numeral of few digits that is rounded as n is. Behind the first mostDigits no middle has a digit but
// 0: so all that matters there is whether something stands there.
func shortened(n api.Numeral) api.Numeral {
	if n.Kind == api.Ratio || len(n.Num) <= mostDigits {
		return n
	}
	head, tail := n.Num[:mostDigits], n.Num[mostDigits:]
	n.Num = head
	if strings.Trim(tail, "0") != "" {
		n.Num, tail = head+"1", tail[1:]
	}
	n.Exp += len(tail) * expPerDigit(n.Kind)
	return n
}

// expPerDigit gives by how much the exponent of a decimal or hexadecimal is greater with a digit less behind the point.
func expPerDigit(kind int) int {
	if kind == api.Hexa {
		return 4
	}
	return 1
}

// slowRoad gives the road of natural numbers, which is always sure.
func slowRoad(n api.Numeral) []road {
	return []road{func() (uint64, api.Errno) {
		switch n.Kind {
		case api.Hexa:
			return near.Scaled(false, number(n.Num, 16), n.Exp, false, api.Even)
		case api.Ratio:
			return near.Quotient(false, number(n.Num, 10), number(n.Den, 10), api.Even)
		}
		return decimal(n.Num, n.Exp)
	}}
}

// decimal rounds the number of digits times ten to the exp.
func decimal(digits string, exp int) (uint64, api.Errno) {
	// The first digit isn't 0: so the number is below ten to this, and not below a tenth of that.
	tens := len(digits) + exp
	switch {
	case tens <= leastTens:
		return 0, api.OK
	case tens > mostTens:
		return 0, api.ErrOverflow
	case exp < 0:
		// Not refused: the power has hardly more digits than a numeral may have.
		den, _ := radix.Ten(-exp)
		return near.Quotient(false, number(digits, 10), den, api.Even)
	}
	// Neither is refused: the product has at most 309 digits.
	five, _ := radix.Five(exp)
	num, _ := nat.Mul(number(digits, 10), five)
	return near.Scaled(false, num, exp, false, api.Even)
}

// number reads digits of a right numeral, which are never too many for a natural number.
func number(digits string, base int) []uint64 {
	x, _ := radix.Parse(digits, base)
	return x
}
