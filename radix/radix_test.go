package radix_test

import (
	"errors"
	"math"
	"math/big"
	"slices"
	"strings"
	"testing"

	"plumb/api"
	"plumb/radix"
	"plumb/sample"
)

const m = math.MaxUint64

type list = []uint64

// refused holds a Parse to its error and to the place of it.
func refused(t *testing.T, s string, base int, code api.Errno, at int) {
	t.Helper()
	x, err := radix.Parse(s, base)
	var f *api.Fault
	if len(x) != 0 || !errors.As(err, &f) || !errors.Is(err, code) || f.At != at || f.Err != code {
		t.Errorf("Parse(%.40q, %d) = %d words, %v, want %d at %d alone", s, base, len(x), err, code, at)
	}
}

// parsed gives what Parse answers, which must not be refused.
func parsed(t *testing.T, s string, base int) list {
	t.Helper()
	x, err := radix.Parse(s, base)
	if err != nil {
		t.Fatalf("Parse(%.40q, %d): %v", s, base, err)
	}
	return x
}

// texted gives what Text answers, which must not be refused.
func texted(t *testing.T, x list, base int) string {
	t.Helper()
	s, e := radix.Text(x, base)
	if e != api.OK {
		t.Fatalf("Text(%d words, %d): %d", len(x), base, e)
	}
	return s
}

// P4.1
func TestParseExamples(t *testing.T) {
	for _, c := range []struct {
		s    string
		base int
		want list
	}{
		{"0", 2, nil},
		{"000", 36, nil},
		{"ff", 16, list{255}},
		{"FF", 16, list{255}},
		{"0fF", 16, list{255}},
		{"z", 36, list{35}},
		{"Z", 36, list{35}},
		{"zZ", 36, list{35*36 + 35}},
		{"10", 2, list{2}},
		{"22", 3, list{8}},
		{"18446744073709551615", 10, list{m}},
		{"18446744073709551616", 10, list{0, 1}},
		{"000018446744073709551616", 10, list{0, 1}},
		{"10000000000000000", 16, list{0, 1}},
		{strings.Repeat("1", 63), 2, list{1<<63 - 1}},
		{strings.Repeat("1", 64), 2, list{m}},
		{strings.Repeat("1", 65), 2, list{m, 1}},
		{"9999999999999999999", 10, list{9999999999999999999}},
		{"10000000000000000000", 10, list{10000000000000000000}},
	} {
		if x := parsed(t, c.s, c.base); !slices.Equal(x, c.want) {
			t.Errorf("Parse(%q, %d) = %x, want %x", c.s, c.base, x, c.want)
		}
	}
}

// P4.1: a base that is none goes ahead of all else, then the first byte that is no digit.
func TestParseRefuses(t *testing.T) {
	for _, base := range []int{-10, -1, 0, 1, 37, 1000, math.MinInt, math.MaxInt} {
		for _, s := range []string{"", "0", "9", "x", "é", strings.Repeat("1", 300000)} {
			refused(t, s, base, api.ErrBase, 0)
		}
	}
	for base := 2; base <= 36; base++ {
		refused(t, "", base, api.ErrDigit, 0)
		refused(t, "é", base, api.ErrDigit, 0)
		refused(t, "\x80", base, api.ErrDigit, 0)
		refused(t, "1 0", base, api.ErrDigit, 1)
		refused(t, "00_0", base, api.ErrDigit, 2)
	}
	for _, c := range []struct {
		s    string
		base int
		at   int
	}{
		{"12a", 10, 2},
		{"2", 2, 0},
		{"-1", 10, 0},
		{"+1", 10, 0},
		{" 1", 10, 0},
		{"1 ", 10, 1},
		{"1é", 16, 1},
		{"1éx", 36, 1},
		{"xxé\xff", 36, 2},
		{"1\xff", 36, 1},
		{"11\x00", 36, 2},
		{"\ufffd", 36, 0},
		{"0x1", 16, 1},
		{"1.5", 10, 1},
		{"9٣", 10, 1},      // a digit of another script
		{"1\u212a", 36, 1}, // the sign of Kelvin, whose small letter is k
		{"1\U0010ffff", 36, 1},
	} {
		refused(t, c.s, c.base, api.ErrDigit, c.at)
	}
}

// P4.1: of all bytes those alone are digits that the base has, in either case.
func TestParseKnowsItsDigits(t *testing.T) {
	const digits = "0123456789abcdefghijklmnopqrstuvwxyz"
	for base := 2; base <= 36; base++ {
		for b := range 256 {
			s := string([]byte{byte(b)})
			want := strings.Index(digits[:base], strings.ToLower(s))
			if b >= 128 || want < 0 {
				refused(t, "1"+s, base, api.ErrDigit, 1)
			} else if x := parsed(t, "1"+s, base); !slices.Equal(x, list{uint64(base + want)}) {
				t.Errorf("Parse(%q, %d) = %x", "1"+s, base, x)
			}
		}
	}
}

// P4.1: the greatest number of 4096 words and the next one, to some bases; zeros ahead count for nothing.
func TestParseAtTheLimit(t *testing.T) {
	next := new(big.Int).Lsh(big.NewInt(1), api.MaxLimbs*64)
	most := new(big.Int).Sub(next, big.NewInt(1))
	for _, base := range []int{2, 3, 10, 16, 36} {
		s := most.Text(base)
		if x := parsed(t, s, base); !slices.Equal(x, sample.Of(api.MaxLimbs, m)) {
			t.Errorf("Parse of 4096 words, base %d: %d words", base, len(x))
		}
		if x := parsed(t, "000"+s, base); len(x) != api.MaxLimbs {
			t.Errorf("Parse of 4096 words with zeros ahead, base %d: %d words", base, len(x))
		}
		refused(t, next.Text(base), base, api.ErrHuge, 0)
		refused(t, "0"+next.Text(base), base, api.ErrHuge, 0)
		refused(t, s+"0", base, api.ErrHuge, 0)
		refused(t, "1"+strings.Repeat("0", 2000000), base, api.ErrHuge, 0)
		refused(t, s+"0/", base, api.ErrDigit, len(s)+1)
		if x := parsed(t, strings.Repeat("0", 300000), base); len(x) != 0 {
			t.Errorf("Parse of 300000 zeros, base %d: %d words", base, len(x))
		}
		if x := parsed(t, strings.Repeat("0", 300000)+"11", base); !slices.Equal(x, list{uint64(base + 1)}) {
			t.Errorf("Parse of 300000 zeros and 11, base %d: %d words", base, len(x))
		}
	}
	if x := parsed(t, "1"+strings.Repeat("0", 262143), 2); len(x) != 4096 || x[4095] != 1<<63 {
		t.Errorf("Parse of a 1 and 262143 zeros, base 2: %d words", len(x))
	}
	refused(t, "1"+strings.Repeat("0", 262144), 2, api.ErrHuge, 0)
	refused(t, "1"+strings.Repeat("0", 262144)+"2", 2, api.ErrDigit, 262145)
}

// P4.2
func TestTextExamples(t *testing.T) {
	tooLong := sample.With(sample.Of(4096, 0), 1)
	for _, c := range []struct {
		x    list
		base int
		want string
		code api.Errno
	}{
		{nil, 10, "0", api.OK},
		{list{}, 2, "0", api.OK},
		{list{0, 0}, 36, "0", api.OK},
		{sample.Of(5000, 0), 16, "0", api.OK},
		{list{255}, 16, "ff", api.OK},
		{list{255, 0}, 2, "11111111", api.OK},
		{list{0, 1}, 10, "18446744073709551616", api.OK},
		{list{35}, 36, "z", api.OK},
		{list{36}, 36, "10", api.OK},
		{list{10}, 11, "a", api.OK},
		{list{m}, 2, strings.Repeat("1", 64), api.OK},
		{list{9999999999999999999}, 10, "9999999999999999999", api.OK},
		{list{10000000000000000000}, 10, "10000000000000000000", api.OK},
		{list{1}, 1, "", api.ErrBase},
		{list{1}, 37, "", api.ErrBase},
		{nil, 0, "", api.ErrBase},
		{list{1}, math.MinInt, "", api.ErrBase},
		{list{1}, math.MaxInt, "", api.ErrBase},
		{tooLong, 10, "", api.ErrHuge},
		{tooLong, 2, "", api.ErrHuge},
		{tooLong, 0, "", api.ErrBase},
		{sample.Of(5000, m), 36, "", api.ErrHuge},
	} {
		if s, e := radix.Text(c.x, c.base); s != c.want || e != c.code {
			t.Errorf("Text(%d words, %d) = %.40q, %d, want %q, %d", len(c.x), c.base, s, e, c.want, c.code)
		}
	}
}

// both holds Text and Parse to the exact digits, and Count to the length of the decimal ones.
func both(t *testing.T, x list, base int) {
	t.Helper()
	number := sample.Number(x)
	s := texted(t, x, base)
	if want := number.Text(base); s != want {
		t.Fatalf("Text(%x, %d) = %q, want %q", x, base, s, want)
	}
	if got := parsed(t, s, base); !sample.Is(got, number) {
		t.Fatalf("Parse(%q, %d) = %x, want %x", s, base, got, number)
	}
	if n := radix.Count(x); base == 10 && n != len(s) {
		t.Fatalf("Count(%x) = %d, want %d", x, n, len(s))
	}
}

// P4.1, P4.2, P4.4
func TestDigitsAreTheNumbers(t *testing.T) {
	rule := sample.Rule(4)
	for base := 2; base <= 36; base++ {
		for _, x := range sample.Lists() {
			both(t, x, base)
		}
		for range 300 {
			both(t, rule.List(rule.Below(30)), base)
		}
		both(t, rule.List(500), base)
	}
	for _, base := range []int{2, 7, 10, 36} {
		both(t, sample.Of(4096, m), base)
		both(t, sample.With(sample.Of(4095, 0), 1), base)
	}
}

// P4.1, P4.2, P4.4: around the powers of a base, where a digit more begins, or zeros fill a word's digits or a half.
func TestDigitsAroundPowers(t *testing.T) {
	one := big.NewInt(1)
	for base := 2; base <= 36; base++ {
		power := big.NewInt(1)
		for range 200 {
			both(t, sample.Words(power), base)
			both(t, sample.Words(new(big.Int).Sub(power, one)), base)
			both(t, sample.Words(new(big.Int).Add(power, one)), base)
			power.Mul(power, big.NewInt(int64(base)))
		}
	}
}
