package ftoa_test

import (
	"math"
	"strings"
	"testing"

	"plumb/api"
	"plumb/ftoa"
)

const (
	minus    = 1 << 63
	tenth    = 0x3fb999999999999a
	greatest = 0x7fefffffffffffff
	infinite = 0x7ff0000000000000
)

// pattern gives the pattern of a float.
func pattern(f float64) uint64 {
	return math.Float64bits(f)
}

// modes are the three that there are.
func modes() []int {
	return []int{api.Shortest, api.HexFloat, api.Science}
}

// strange are patterns that have no number.
func strange() []uint64 {
	var out []uint64
	for _, b := range []uint64{infinite, infinite + 1, 0x7ff8000000000000, 0x7fffffffffffffff} {
		out = append(out, b, b|minus)
	}
	return out
}

// noModes are numbers that are no mode.
func noModes() []int {
	return []int{0, -1, 4, 5, -2, 9, 1 << 32, 1<<32 + 1, math.MinInt, math.MinInt + 1, math.MaxInt}
}

// P14.1, P14.2: the chapter's examples 1 to 6, with either sign.
func TestTextExamples(t *testing.T) {
	for _, c := range []struct {
		b                      uint64
		shortest, science, hex string
	}{
		{pattern(1), "1", "1e+00", "0x1p+0"},
		{pattern(2), "2", "2e+00", "0x1p+1"},
		{tenth, "0.1", "1e-01", "0x1.999999999999ap-4"},
		{pattern(1.5), "1.5", "1.5e+00", "0x1.8p+0"},
		{0, "0", "0e+00", "0x0p+0"},
		{1, "5e-324", "5e-324", "0x1p-1074"},
		{2, "1e-323", "1e-323", "0x1p-1073"},
		{3, "1.5e-323", "1.5e-323", "0x1.8p-1073"},
		{0x0008000000000000, "1.1125369292536007e-308", "1.1125369292536007e-308", "0x1p-1023"},
		{0x000fffffffffffff, "2.225073858507201e-308", "2.225073858507201e-308", "0x1.ffffffffffffep-1023"},
		{0x0010000000000000, "2.2250738585072014e-308", "2.2250738585072014e-308", "0x1p-1022"},
		{0x0010000000000001, "2.225073858507202e-308", "2.225073858507202e-308", "0x1.0000000000001p-1022"},
		{greatest, "1.7976931348623157e+308", "1.7976931348623157e+308", "0x1.fffffffffffffp+1023"},
		{0x444b1ae4d6e2ef50, "1e+21", "1e+21", "0x1.b1ae4d6e2ef5p+69"},
		{0x4415af1d78b58c40, "100000000000000000000", "1e+20", "0x1.5af1d78b58c4p+66"},
		{0x3eb0c6f7a0b5ed8d, "0.000001", "1e-06", "0x1.0c6f7a0b5ed8dp-20"},
		{0x3e7ad7f29abcaf48, "1e-07", "1e-07", "0x1.ad7f29abcaf48p-24"},
		{0x40fe240c9fbe76c9, "123456.789", "1.23456789e+05", "0x1.e240c9fbe76c9p+16"},
		{pattern(10), "10", "1e+01", "0x1.4p+3"},
		{pattern(100), "100", "1e+02", "0x1.9p+6"},
		{pattern(0.05), "0.05", "5e-02", "0x1.999999999999ap-5"},
		{pattern(9.5), "9.5", "9.5e+00", "0x1.3p+3"},
		{pattern(12.25), "12.25", "1.225e+01", "0x1.88p+3"},
		{pattern(1e9), "1000000000", "1e+09", "0x1.dcd65p+29"},
		{pattern(1e10), "10000000000", "1e+10", "0x1.2a05f2p+33"},
		{pattern(1e-9), "1e-09", "1e-09", "0x1.12e0be826d695p-30"},
		{pattern(1e-10), "1e-10", "1e-10", "0x1.b7cdfd9d7bdbbp-34"},
		{pattern(1e99), "1e+99", "1e+99", "0x1.d42aea2879f2ep+328"},
		{pattern(1e100), "1e+100", "1e+100", "0x1.249ad2594c37dp+332"},
		{pattern(1e-99), "1e-99", "1e-99", "0x1.17f7d4ed8c33ep-329"},
		{pattern(1e-100), "1e-100", "1e-100", "0x1.bff2ee48e053p-333"},
		{pattern(1.0 / 16), "0.0625", "6.25e-02", "0x1p-4"},
		{pattern(1 << 10), "1024", "1.024e+03", "0x1p+10"},
	} {
		for mode, want := range map[int]string{api.Shortest: c.shortest, api.Science: c.science, api.HexFloat: c.hex} {
			if s, e := ftoa.Text(c.b, mode); s != want || e != api.OK {
				t.Errorf("Text(%x, %d) = %q, %d, want %q", c.b, mode, s, e, want)
			}
			if s, e := ftoa.Text(c.b|minus, mode); s != "-"+want || e != api.OK {
				t.Errorf("Text(%x, %d) = %q, %d, want -%s", c.b|minus, mode, s, e, want)
			}
		}
		if s, e := ftoa.Hex(c.b); s != c.hex || e != api.OK {
			t.Errorf("Hex(%x) = %q, %d, want %q", c.b, s, e, c.hex)
		}
		if s, e := ftoa.Hex(c.b | minus); s != "-"+c.hex || e != api.OK {
			t.Errorf("Hex(%x) = %q, %d, want -%s", c.b|minus, s, e, c.hex)
		}
	}
}

// P14.1: where Shortest goes over from the plain form to the scientific one, of one digit and of many.
func TestShortestAtItsEnds(t *testing.T) {
	for _, c := range []struct {
		b    uint64
		want string
	}{
		{pattern(1e20), "100000000000000000000"},
		{pattern(1e21), "1e+21"},
		{pattern(1e21) - 1, "999999999999999900000"},
		{pattern(1e21) + 1, "1.0000000000000001e+21"},
		{pattern(9e20), "900000000000000000000"},
		{pattern(123456789012345680000), "123456789012345680000"},
		{pattern(1234567890123456800000), "1.2345678901234568e+21"},
		{pattern(1e-6), "0.000001"},
		{pattern(1e-6) - 1, "9.999999999999997e-07"},
		{pattern(1e-6) + 1, "0.0000010000000000000002"},
		{pattern(1e-7), "1e-07"},
		{pattern(9e-7), "9e-07"},
		{pattern(1.5e-6), "0.0000015"},
		{pattern(1e17) - 16, "99999999999999740"},
		{0x4340000000000000, "9007199254740992"},
		{0x4350000000000000, "18014398509481984"},
		{0x43e0000000000000, "9223372036854776000"},
	} {
		for _, sign := range []uint64{0, minus} {
			want := strings.Repeat("-", int(sign>>63)) + c.want
			if s, e := ftoa.Text(c.b|sign, api.Shortest); s != want || e != api.OK {
				t.Errorf("Text(%x, Shortest) = %q, %d, want %q", c.b|sign, s, e, want)
			}
		}
	}
}

// P14.1, P14.2, P14.4: patterns that are infinite, or none of a number, at any place of a list.
func TestNotFinite(t *testing.T) {
	for _, b := range strange() {
		if s, e := ftoa.Hex(b); s != "" || e != api.ErrFinite {
			t.Errorf("Hex(%x) = %q, %d", b, s, e)
		}
		for _, mode := range modes() {
			if s, e := ftoa.Text(b, mode); s != "" || e != api.ErrFinite {
				t.Errorf("Text(%x, %d) = %q, %d", b, mode, s, e)
			}
			for _, list := range [][]uint64{{b}, {b, 0}, {0, b}, {1, b, 2}, {b, b}} {
				if s, e := ftoa.Line(list, mode); s != "" || e != api.ErrFinite {
					t.Errorf("Line(%x, %d) = %q, %d", list, mode, s, e)
				}
			}
		}
	}
}

// P14.1, P14.4: a mode that is none goes ahead of whatever the patterns are, of none too.
func TestNoSuchMode(t *testing.T) {
	for _, mode := range noModes() {
		for _, b := range append(strange(), 0, minus, 1, tenth, greatest) {
			if s, e := ftoa.Text(b, mode); s != "" || e != api.ErrPrint {
				t.Errorf("Text(%x, %d) = %q, %d", b, mode, s, e)
			}
			for _, list := range [][]uint64{{b}, {0, b}, {b, 0}} {
				if s, e := ftoa.Line(list, mode); s != "" || e != api.ErrPrint {
					t.Errorf("Line(%x, %d) = %q, %d", list, mode, s, e)
				}
			}
		}
		for _, list := range [][]uint64{nil, {}} {
			if s, e := ftoa.Line(list, mode); s != "" || e != api.ErrPrint {
				t.Errorf("Line of nothing, %d: %q, %d", mode, s, e)
			}
		}
	}
}

// P14.3: the chapter's example 8; zeros at either end of the digits; the point at every place.
func TestPlainExamples(t *testing.T) {
	for _, c := range []struct {
		digits string
		exp    int
		want   string
	}{
		{"123", 2, "12300"},
		{"123", 0, "123"},
		{"123", -1, "12.3"},
		{"123", -2, "1.23"},
		{"123", -3, "0.123"},
		{"123", -4, "0.0123"},
		{"123", -5, "0.00123"},
		{"0012300", -4, "1.23"},
		{"0012300", -2, "123"},
		{"0012300", -1, "1230"},
		{"0012300", 0, "12300"},
		{"0012300", 1, "123000"},
		{"0012300", -5, "0.123"},
		{"0012300", -6, "0.0123"},
		{"5", 0, "5"},
		{"5", -1, "0.5"},
		{"000", 7, "0"},
		{"000", -7, "0"},
		{"0", 0, "0"},
		{"0", api.MaxFixed, "0"},
		{"0", -api.MaxFixed, "0"},
		{"10", -1, "1"},
		{"10", -2, "0.1"},
		{"100", -1, "10"},
		{"1002003", -3, "1002.003"},
		{"1002000", -3, "1002"},
		{"1002000", -5, "10.02"},
		{"01", -1, "0.1"},
		{"001", -1, "0.1"},
		{"0987654321", -9, "0.987654321"},
		{"1", api.MaxFixed, "1" + strings.Repeat("0", api.MaxFixed)},
		{"1", -api.MaxFixed, "0." + strings.Repeat("0", api.MaxFixed-1) + "1"},
		{"10", -api.MaxFixed, "0." + strings.Repeat("0", api.MaxFixed-2) + "1"},
		{strings.Repeat("0", 5000) + "7", 3, "7000"},
		{"7" + strings.Repeat("0", 5000), -api.MaxFixed, "7" + strings.Repeat("0", 5000-api.MaxFixed)},
		{strings.Repeat("9", 5000), -api.MaxFixed, strings.Repeat("9", 5000-api.MaxFixed) + "." + strings.Repeat("9", api.MaxFixed)},
	} {
		if s, e := ftoa.Plain(c.digits, c.exp); s != c.want || e != api.OK {
			t.Errorf("Plain(%.20q, %d) = %.40q, %d, want %.40q", c.digits, c.exp, s, e, c.want)
		}
	}
}

// P14.3: no digits, or bytes among them that are none, whatever the exponent; the neighbours of 0 and 9 among them.
func TestPlainNoDigits(t *testing.T) {
	for _, digits := range []string{"", "1x", "x1", "-1", "+1", "1.5", " 1", "1 ", "1e5", "0x1", "/", ":", "1/", "1:", "a", "\x00", "1\xff", "١", "１", "1_0", "1\n", strings.Repeat("1", 5000) + "f"} {
		for _, exp := range []int{0, 5, -5, api.MaxFixed, -api.MaxFixed, 9999, -9999, math.MaxInt, math.MinInt} {
			if s, e := ftoa.Plain(digits, exp); s != "" || e != api.ErrDigit {
				t.Errorf("Plain(%.20q, %d) = %.40q, %d", digits, exp, s, e)
			}
		}
	}
}

// P14.3: exponents past the limit, of zero too.
func TestPlainTooFar(t *testing.T) {
	for _, digits := range []string{"1", "0", "000", "0012300"} {
		for _, n := range []int{api.MaxFixed + 1, 9999, 1 << 32, math.MaxInt} {
			for _, exp := range []int{n, -n, -n - 1} {
				if s, e := ftoa.Plain(digits, exp); s != "" || e != api.ErrFixed {
					t.Errorf("Plain(%q, %d) = %.40q, %d", digits, exp, s, e)
				}
			}
		}
	}
}

// P14.4: the chapter's example 9; lists of one and of many.
func TestLineExamples(t *testing.T) {
	for _, c := range []struct {
		list []uint64
		mode int
		want string
	}{
		{[]uint64{pattern(1), minus}, api.Shortest, "1 -0"},
		{[]uint64{pattern(1), minus}, api.Science, "1e+00 -0e+00"},
		{[]uint64{pattern(1), minus}, api.HexFloat, "0x1p+0 -0x0p+0"},
		{nil, api.Shortest, ""},
		{[]uint64{}, api.Science, ""},
		{[]uint64{}, api.HexFloat, ""},
		{[]uint64{0}, api.Shortest, "0"},
		{[]uint64{tenth}, api.HexFloat, "0x1.999999999999ap-4"},
		{[]uint64{0, 0, 0}, api.Shortest, "0 0 0"},
		{[]uint64{1, 2}, api.HexFloat, "0x1p-1074 0x1p-1073"},
		{[]uint64{pattern(-1.5), 1, greatest}, api.Shortest, "-1.5 5e-324 1.7976931348623157e+308"},
	} {
		if s, e := ftoa.Line(c.list, c.mode); s != c.want || e != api.OK {
			t.Errorf("Line(%x, %d) = %q, %d, want %q", c.list, c.mode, s, e, c.want)
		}
	}
}
