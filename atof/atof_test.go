package atof_test

import (
	"fmt"
	"math"
	"math/big"
	"strconv"
	"strings"
	"testing"

	"plumb/api"
	"plumb/atof"
	"plumb/lex"
	"plumb/sample"
)

const (
	minus    = 1 << 63
	one      = 0x3ff0000000000000
	tenth    = 0x3fb999999999999a
	greatest = 0x7fefffffffffffff
)

// reads holds Parse, Bits and Slow of a text to a pattern.
func reads(t *testing.T, s string, want uint64) {
	t.Helper()
	if b, err := atof.Parse(s); b != want || err != nil {
		t.Errorf("Parse(%.60q) = %x, %v, want %x", s, b, err, want)
	}
	n, err := lex.Parse(s)
	if err != nil {
		t.Fatalf("%.60q is no numeral: %v", s, err)
	}
	bits(t, n, want, api.OK)
}

// bits holds Bits and Slow to a pattern and an Errno.
func bits(t *testing.T, n api.Numeral, want uint64, code api.Errno) {
	t.Helper()
	if b, e := atof.Bits(n); b != want || e != code {
		t.Errorf("Bits(%s) = %x, %d, want %x, %d", short(n), b, e, want, code)
	}
	if b, e := atof.Slow(n); b != want || e != code {
		t.Errorf("Slow(%s) = %x, %d, want %x, %d", short(n), b, e, want, code)
	}
}

// short tells a numeral in few letters.
func short(n api.Numeral) string {
	return fmt.Sprintf("kind %d, %v, %.40q, %d, %.40q", n.Kind, n.Neg, n.Num, n.Exp, n.Den)
}

// refuses holds Parse to an error, and Bits and Slow likewise, where it isn't lex's.
func refuses(t *testing.T, s string, at int, code api.Errno) {
	t.Helper()
	if b, err := atof.Parse(s); b != 0 || !isFault(err, at, code) {
		t.Errorf("Parse(%.60q) = %x, %v, want %d at %d", s, b, err, code, at)
	}
	if n, err := lex.Parse(s); err == nil {
		bits(t, n, 0, code)
	}
}

// isFault tells whether an error is the Fault with that Errno at that place, and no more than it.
func isFault(err error, at int, code api.Errno) bool {
	f, ok := err.(*api.Fault)
	return ok && f.At == at && f.Err == code
}

// P11.1, P11.2: the chapter's examples 1 to 5.
func TestExamples(t *testing.T) {
	for s, want := range map[string]uint64{
		"1":                    one,
		"0.1":                  tenth,
		"1/10":                 tenth,
		"0x1.999999999999ap-4": tenth,
		"-0":                   minus,
		"-0/7":                 minus,
		"-0x0p5":               minus,
		"-0e99":                minus,
		"0":                    0,
		"9007199254740993":     0x4340000000000000,
		"9007199254740993.0000000000000000000000001": 0x4340000000000001,
		"9007199254740995":                           0x4340000000000002,
		"1.7976931348623157e308":                     greatest,
		"1.7976931348623158e308":                     greatest,
		"1.797693134862315807e308":                   greatest,
		"0x1.fffffffffffff7ffp1023":                  greatest,
		"5e-324":                                     1,
		"2.4703282292062327e-324":                    0,
		"2.4703282292062328e-324":                    1,
		"-1e-400":                                    minus,
		"0x1p-1075":                                  0,
		"0x1.0000000000001p-1075":                    1,
		"2.2250738585072014e-308":                    0x0010000000000000,
		"2.225073858507201e-308":                     0x000fffffffffffff,
		"1/3":                                        0x3fd5555555555555,
		"2/6":                                        0x3fd5555555555555,
		"-1/3":                                       0xbfd5555555555555,
		"-2/6":                                       0xbfd5555555555555,
		"4.9406564584124654e-324":                    1,
	} {
		reads(t, s, want)
	}
	for _, s := range []string{"1.797693134862315808e308", "-2e308", "1e1073741824", "0x1p1024", "0x1.fffffffffffff8p1023"} {
		refuses(t, s, 0, api.ErrOverflow)
	}
	refuses(t, "1/0", 0, api.ErrZeroDen)
	refuses(t, "0/0", 0, api.ErrZeroDen)
}

// P11.2: the chapter's example 6: lex's errors, as they are.
func TestNoNumerals(t *testing.T) {
	refuses(t, "1e", 1, api.ErrExpo)
	refuses(t, "", 0, api.ErrNumeral)
	refuses(t, "inf", 0, api.ErrNumeral)
	refuses(t, "nan", 0, api.ErrNumeral)
	refuses(t, "1+", 1, api.ErrSign)
	refuses(t, "12-3", 2, api.ErrSign)
	refuses(t, "1e5p3", 3, api.ErrExpo)
	refuses(t, " 1", 0, api.ErrNumeral)
	refuses(t, "1 ", 1, api.ErrNumeral)
	refuses(t, "1/0x", 3, api.ErrNumeral)
	refuses(t, "1e999,", 5, api.ErrNumeral)
	refuses(t, "0x1", 1, api.ErrNumeral)
	refuses(t, strings.Repeat("1", 65537), 65536, api.ErrNumeral)
}

// P11.1: the chapter's example 8, and other Numerals that are none; ErrKind comes first, then ErrZeroDen.
func TestWrongNumerals(t *testing.T) {
	long := strings.Repeat("1", api.MaxText+1)
	for _, n := range []api.Numeral{
		{},
		{Kind: 4, Num: "1"},
		{Kind: -1, Num: "1"},
		{Kind: api.Ratio, Num: "0"},
		{Kind: api.Ratio, Num: "1", Den: "01"},
		{Kind: api.Ratio, Num: "1", Den: "2", Exp: 1},
		{Kind: api.Ratio, Num: "1", Exp: 1},
		{Kind: api.Ratio, Num: "a", Den: "2"},
		{Kind: api.Ratio, Num: "a"},
		{Kind: api.Ratio, Num: long, Den: "1"},
		{Kind: api.Ratio, Num: "1", Den: long},
		{Kind: api.Decimal, Num: "01"},
		{Kind: api.Decimal, Num: "1a"},
		{Kind: api.Decimal, Num: "-1"},
		{Kind: api.Decimal, Num: "1", Den: "1"},
		{Kind: api.Decimal, Num: "1", Exp: api.MaxExp + 1},
		{Kind: api.Decimal, Num: "1", Exp: -api.MaxExp - 1},
		{Kind: api.Decimal, Num: "", Exp: math.MaxInt},
		{Kind: api.Decimal, Num: long, Exp: math.MinInt},
		{Kind: api.Decimal, Num: long},
		{Kind: api.Hexa, Num: "1G"},
		{Kind: api.Hexa, Num: "A"},
		{Kind: api.Hexa, Num: "0"},
		{Kind: api.Hexa, Num: "1", Exp: math.MaxInt},
		{Kind: api.Hexa, Num: "1", Exp: math.MinInt},
		{Kind: api.Hexa, Num: "1", Den: "1"},
		{Kind: api.Hexa, Num: long},
	} {
		bits(t, n, 0, api.ErrKind)
		n.Neg = true
		bits(t, n, 0, api.ErrKind)
	}
	bits(t, api.Numeral{Kind: api.Ratio, Neg: true, Num: "1"}, 0, api.ErrZeroDen)
	bits(t, api.Numeral{Kind: api.Ratio, Neg: true}, 0, api.ErrZeroDen)
	bits(t, api.Numeral{Kind: api.Ratio, Num: long[1:]}, 0, api.ErrZeroDen)
}

// P11.1: zeros of all kinds, whatever the exponent is, and numbers that are rounded to zero, have the sign.
func TestZeros(t *testing.T) {
	for _, n := range []api.Numeral{
		{Kind: api.Decimal}, {Kind: api.Decimal, Exp: api.MaxExp}, {Kind: api.Decimal, Exp: -api.MaxExp}, {Kind: api.Decimal, Exp: 309},
		{Kind: api.Hexa}, {Kind: api.Hexa, Exp: api.MaxExp}, {Kind: api.Hexa, Exp: -api.MaxExp},
		{Kind: api.Ratio, Den: "1"}, {Kind: api.Ratio, Den: strings.Repeat("9", api.MaxText)},
		{Kind: api.Decimal, Num: "1", Exp: -api.MaxExp}, {Kind: api.Decimal, Num: "1", Exp: -325}, {Kind: api.Decimal, Num: "2", Exp: -324},
		{Kind: api.Hexa, Num: "1", Exp: -api.MaxExp}, {Kind: api.Hexa, Num: "1", Exp: -1075},
		{Kind: api.Ratio, Num: "1", Den: "1" + strings.Repeat("0", 324)},
		{Kind: api.Decimal, Num: strings.Repeat("9", api.MaxText), Exp: -api.MaxText - 324},
	} {
		bits(t, n, 0, api.OK)
		n.Neg = true
		bits(t, n, minus, api.OK)
	}
}

// P11.1: from 2^1024 - 2^970 on all overflows, in every kind and with either sign; just below it is the greatest.
func TestOverflow(t *testing.T) {
	edge := new(big.Int).Sub(power(2, 1024), power(2, 970))
	below := new(big.Int).Sub(edge, big.NewInt(1))
	for _, sign := range []string{"", "-"} {
		at, under, want := sign+edge.String(), sign+below.String(), uint64(greatest)
		if sign == "-" {
			want |= minus
		}
		for _, s := range []string{"", "/1", ".", ".000", "e0", "000e-3", ".0e0", "00/100"} {
			refuses(t, at+s, 0, api.ErrOverflow)
			reads(t, under+s, want)
		}
		refuses(t, at+".0000000001", 0, api.ErrOverflow)
		reads(t, under+".9999999999", want)
		refuses(t, sign+"0x"+edge.Text(16)+"p0", 0, api.ErrOverflow)
		reads(t, sign+"0x"+below.Text(16)+"p0", want)
		reads(t, sign+"0x"+below.Text(16)+".fffp0", want)
		for _, s := range []string{
			"1e309", "9e308", "1e1073741824", "1e99999999999", "0x1p1024", "0x.1p1028", "0x1p1073741824",
			"1" + strings.Repeat("0", 309), "1" + strings.Repeat("0", 65534), "1" + strings.Repeat("0", 309) + "/1",
			"." + strings.Repeat("0", 10000) + "1e10310", "1" + strings.Repeat("0", 10000) + "e-9691",
		} {
			refuses(t, sign+s, 0, api.ErrOverflow)
		}
	}
}

// power gives x to the n.
func power(x int64, n int) *big.Int {
	return new(big.Int).Exp(big.NewInt(x), big.NewInt(int64(n)), nil)
}

// P11.1, P11.2: decimals of all lengths and sizes, against the library's reader.
func TestDecimals(t *testing.T) {
	rule := sample.Rule(111)
	for range 30000 {
		digits := sample.Number(rule.List(1 + rule.Below(3))).String()
		digits = digits[:1+rule.Below(len(digits))]
		exp := rule.Below(700) - 360
		if rule.Below(3) == 0 {
			exp = rule.Below(60) - 30
		}
		against(t, digits+"e"+strconv.Itoa(exp-len(digits)))
	}
}

// P11.1, P11.2: hexadecimals, likewise.
func TestHexadecimals(t *testing.T) {
	rule := sample.Rule(112)
	for range 10000 {
		digits := sample.Number(rule.List(1 + rule.Below(2))).Text(16)
		digits = digits[:1+rule.Below(len(digits))]
		against(t, "-0x"+digits+"p"+strconv.Itoa(rule.Below(2300)-1150-4*len(digits)))
	}
}

// against holds a text to what the library's reader says.
func against(t *testing.T, s string) {
	t.Helper()
	want, err := strconv.ParseFloat(s, 64)
	if err != nil {
		refuses(t, s, 0, api.ErrOverflow)
	} else {
		reads(t, s, math.Float64bits(want))
	}
}

// P11.1, P11.2: rationals, against the library's rational numbers.
func TestRationals(t *testing.T) {
	rule := sample.Rule(113)
	for range 5000 {
		num, den := sample.Number(rule.List(rule.Below(19))), sample.Number(rule.List(1+rule.Below(19)))
		if den.Sign() == 0 {
			continue
		}
		want, _ := new(big.Rat).SetFrac(num, den).Float64()
		if s := num.String() + "/" + den.String(); math.IsInf(want, 0) {
			refuses(t, s, 0, api.ErrOverflow)
		} else {
			reads(t, s, math.Float64bits(want))
		}
	}
}
