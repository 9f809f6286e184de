package lemire

import (
	"strings"

	"plumb/api"
)

const (
	digitSigns = "0123456789"
	mostDigits = 19 // that a word holds, whatever they are
)

// Cut gives the first digits of a text of decimal digits as a word, how many were used, and whether others than 0 follow.
func Cut(digits string) (uint64, int, bool, api.Errno) {
	if strings.Trim(digits, digitSigns) != "" {
		return 0, 0, false, api.ErrDigit
	}
	said := strings.TrimLeft(digits, "0")
	used := min(len(said), mostDigits)
	more := strings.Trim(said[used:], "0") != ""
	return word(said[:used]), len(digits) - len(said) + used, more, api.OK
}

// word gives the number that decimal digits say, so many as a word holds.
func word(digits string) uint64 {
	out := uint64(0)
	for _, d := range []byte(digits) {
		out = out*10 + uint64(d-'0')
	}
	return out
}
