package lemire_test

import (
	"strings"
	"testing"

	"plumb/api"
	"plumb/lemire"
)

// P10.3: the chapter's example 4, and the edges of 19 digits.
func TestCutExamples(t *testing.T) {
	zeros, nines := strings.Repeat("0", 40), strings.Repeat("9", 40)
	for _, c := range []struct {
		digits string
		want   uint64
		used   int
		more   bool
	}{
		{"123", 123, 3, false},
		{"00120", 120, 5, false},
		{"12345678901234567890123", 1234567890123456789, 19, true},
		{"1" + zeros[:24], 1000000000000000000, 19, false},
		{"0000000000000000000000000000012", 12, 31, false},
		{"", 0, 0, false},
		{"000", 0, 3, false},
		{"0", 0, 1, false},
		{zeros, 0, 40, false},
		{"7", 7, 1, false},
		{nines[:18], 999999999999999999, 18, false},
		{nines[:19], 9999999999999999999, 19, false},
		{nines[:20], 9999999999999999999, 19, true},
		{zeros + nines[:19], 9999999999999999999, 59, false},
		{zeros + nines[:19] + zeros, 9999999999999999999, 59, false},
		{zeros + nines[:19] + zeros + "1", 9999999999999999999, 59, true},
		{zeros + nines[:19] + "1" + zeros, 9999999999999999999, 59, true},
		{"1" + zeros[:18], 1000000000000000000, 19, false},
		{"1" + zeros[:18] + "5", 1000000000000000000, 19, true},
		{"18446744073709551615", 1844674407370955161, 19, true},
		{"10203040506070809010", 1020304050607080901, 19, false},
	} {
		w, used, more, bad := lemire.Cut(c.digits)
		if w != c.want || used != c.used || more != c.more || bad != api.OK {
			t.Errorf("Cut(%q) = %d, %d, %v, %d, want %d, %d, %v", c.digits, w, used, more, bad, c.want, c.used, c.more)
		}
	}
}

// P10.3: the chapter's wrong texts.
func TestCutRefuses(t *testing.T) {
	for _, digits := range []string{
		"12a", "-1", "1.5", strings.Repeat("9", 25) + "x", "+1", " 1", "1 ", "1e5", "1_000", "0x1", "\x00", "٣", "1\xff", "５",
	} {
		if w, used, more, bad := lemire.Cut(digits); w != 0 || used != 0 || more || bad != api.ErrDigit {
			t.Errorf("Cut(%q) = %d, %d, %v, %d", digits, w, used, more, bad)
		}
	}
}

// P10.3: every byte, at every place of a text: among the zeros ahead, the digits that are used, and those behind.
func TestCutBytes(t *testing.T) {
	text := strings.Repeat("0", 5) + strings.Repeat("3", 25) + strings.Repeat("0", 5)
	for at := range len(text) {
		for c := range 256 {
			digits := text[:at] + string([]byte{byte(c)}) + text[at+1:]
			w, used, more, bad := lemire.Cut(digits)
			if c >= '0' && c <= '9' {
				if bad != api.OK || w == 0 || used < 19 || !more {
					t.Errorf("Cut(%q) = %d, %d, %v, %d", digits, w, used, more, bad)
				}
			} else if w != 0 || used != 0 || more || bad != api.ErrDigit {
				t.Errorf("Cut(%q) = %d, %d, %v, %d", digits, w, used, more, bad)
			}
		}
	}
}
