package rat

import (
	"strings"

	"plumb/api"
	"plumb/radix"
)

const base = 10

// Text writes it: "-3/4", "5", "0".
func Text(a api.Rat) (string, api.Errno) {
	if Check(a) != api.OK {
		return "", api.ErrRat
	}
	// A Rat's numbers have a text: they are not too long.
	s, _ := radix.Text(a.Num, base)
	if a.Neg {
		s = "-" + s
	}
	if isOne(a.Den) {
		return s, api.OK
	}
	den, _ := radix.Text(a.Den, base)
	return s + "/" + den, api.OK
}

// Parse reads what Text writes, and any other "-p/q" or "p".
func Parse(s string) (api.Rat, error) {
	size, neg := strings.CutPrefix(s, "-")
	above, below, isQuotient := strings.Cut(size, "/")
	if !isQuotient {
		below = "1"
	}
	aboveAt := len(s) - len(size)
	belowAt := aboveAt + len(above) + 1
	num, numErr := read(above, aboveAt)
	den, denErr := read(below, belowAt)
	switch {
	case api.Code(numErr) == api.ErrDigit:
		return api.Rat{}, numErr
	case api.Code(denErr) == api.ErrDigit:
		return api.Rat{}, denErr
	case denErr == nil && len(den) == 0:
		return api.Rat{}, api.Wrap(belowAt, api.ErrZeroDen)
	case numErr != nil:
		return api.Rat{}, numErr
	case denErr != nil:
		return api.Rat{}, denErr
	}
	return lowest(neg, num, den), nil
}

// read gives the number of decimal digits; an error's place is told as if they began at that one.
func read(digits string, at int) ([]uint64, error) {
	x, err := radix.Parse(digits, base)
	if err != nil {
		return nil, api.Wrap(at+api.Place(err), api.Code(err))
	}
	return x, nil
}
