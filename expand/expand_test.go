package expand_test

import (
	"math"
	"strings"
	"testing"

	"plumb/api"
	"plumb/expand"
)

const (
	minus    = 1 << 63
	tenth    = 0x3fb999999999999a
	greatest = 0x7fefffffffffffff
	infinite = 0x7ff0000000000000
)

// pattern gives the pattern of a float.
func pattern(f float64) uint64 {
	return math.Float64bits(f)
}

// P13.1: the chapter's example 1, with either sign.
func TestDigitsExamples(t *testing.T) {
	for _, c := range []struct {
		b uint64
		d string
		e int
	}{
		{pattern(1), "1", 0},
		{pattern(1.5), "15", -1},
		{pattern(100), "1", 2},
		{tenth, "1000000000000000055511151231257827021181583404541015625", -55},
		{0, "0", 0},
		{0x4340000000000000, "9007199254740992", 0},
		{pattern(0.5), "5", -1},
		{pattern(1e22), "1", 22},
		{pattern(1230), "123", 1},
		{pattern(10203), "10203", 0},
		{pattern(9.999), "99990000000000005542233338928781449794769287109375", -49},
	} {
		for _, b := range []uint64{c.b, c.b | minus} {
			if d, e, bad := expand.Digits(b); d != c.d || e != c.e || bad != api.OK {
				t.Errorf("Digits(%x) = %s, %d, %d, want %s, %d", b, d, e, bad, c.d, c.e)
			}
		}
	}
}

// P13.1: the patterns with the most digits, and the least and the greatest one.
func TestDigitsAtTheEnds(t *testing.T) {
	for _, c := range []struct {
		b     uint64
		n, e  int
		begin string
	}{
		{1, 751, -1074, "4940656458412465441765687928682213723650"},
		{greatest, 309, 0, "17976931348623157081452742373170435679807"},
		{0x001fffffffffffff, 767, -1074, "4450147717014402"},
		{0x000fffffffffffff, 767, -1074, "2225073858507200889"},
		{0x0010000000000000, 715, -1022, "2225073858507201383"},
	} {
		d, e, bad := expand.Digits(c.b)
		if len(d) != c.n || e != c.e || bad != api.OK || !strings.HasPrefix(d, c.begin) || d[c.n-1] == '0' {
			t.Errorf("Digits(%x) = %s, %d, %d", c.b, d, e, bad)
		}
	}
}

// P13.2: the chapter's example 2; a 9 that is carried on; a number less than a digit, or so far below it that nothing is
// left; zeros behind; ties on either side.
func TestFixedExamples(t *testing.T) {
	for _, c := range []struct {
		b    uint64
		n    int
		want string
	}{
		{tenth, 3, "0.100"},
		{tenth, 20, "0.10000000000000000555"},
		{tenth, 0, "0"},
		{pattern(0.5), 0, "0"},
		{pattern(1.5), 0, "2"},
		{pattern(2.5), 0, "2"},
		{pattern(0.125), 2, "0.12"},
		{pattern(0.375), 2, "0.38"},
		{pattern(-0.5), 0, "-0"},
		{minus, 2, "-0.00"},
		{pattern(999.5), 0, "1000"},
		{pattern(100), 1, "100.0"},
		{1, 3, "0.000"},
		{1 | minus, 3, "-0.000"},
		{0, 0, "0"},
		{minus, 0, "-0"},
		{0, 4, "0.0000"},
		{pattern(0.5) + 1, 0, "1"},
		{pattern(0.5) - 1, 0, "0"},
		{pattern(0.75), 0, "1"},
		{pattern(-0.75), 0, "-1"},
		{pattern(0.0625), 0, "0"},
		{pattern(0.0625), 1, "0.1"},
		{pattern(0.03125), 1, "0.0"},
		{pattern(0.0625), 3, "0.062"},
		{pattern(0.1875), 3, "0.188"},
		{pattern(0.96875), 1, "1.0"},
		{pattern(9.96875), 1, "10.0"},
		{pattern(-99.96875), 1, "-100.0"},
		{pattern(0.99609375), 2, "1.00"},
		{pattern(0.00390625), 2, "0.00"},
		{pattern(0.0078125), 2, "0.01"},
		{pattern(998.5), 0, "998"},
		{pattern(1e22), 0, "10000000000000000000000"},
		{pattern(1e22), 2, "10000000000000000000000.00"},
		{pattern(123.25), 1, "123.2"},
		{pattern(123.25), 2, "123.25"},
		{pattern(123.25), 3, "123.250"},
	} {
		if s, e := expand.Fixed(c.b, c.n); s != c.want || e != api.OK {
			t.Errorf("Fixed(%x, %d) = %q, %d, want %q", c.b, c.n, s, e, c.want)
		}
	}
}

// P13.2: as many digits as may be asked for.
func TestFixedAtTheLimit(t *testing.T) {
	all, _, _ := expand.Digits(1)
	want := "-0." + strings.Repeat("0", 1074-len(all)) + all + strings.Repeat("0", 26)
	if s, e := expand.Fixed(minus|1, api.MaxFixed); s != want || e != api.OK {
		t.Errorf("Fixed of the least with %d digits: %s, %d", api.MaxFixed, s, e)
	}
	all, _, _ = expand.Digits(greatest)
	want = all + "." + strings.Repeat("0", api.MaxFixed)
	if s, e := expand.Fixed(greatest, api.MaxFixed); s != want || e != api.OK {
		t.Errorf("Fixed of the greatest with %d digits: %s, %d", api.MaxFixed, s, e)
	}
	want = "-0." + strings.Repeat("0", api.MaxFixed)
	if s, e := expand.Fixed(minus, api.MaxFixed); s != want || e != api.OK {
		t.Errorf("Fixed of -0 with %d digits: %s, %d", api.MaxFixed, s, e)
	}
}

// P13.3: the chapter's example 4; a 9 that is carried on; ties on either side; zeros behind.
func TestPreciseExamples(t *testing.T) {
	for _, c := range []struct {
		b uint64
		n int
		d string
		e int
	}{
		{pattern(1), 3, "100", -2},
		{tenth, 17, "10000000000000001", -17},
		{pattern(999.5), 3, "100", 1},
		{pattern(999.5), 4, "9995", -1},
		{pattern(-2.5), 1, "2", 0},
		{0, 2, "00", 0},
		{minus, 1, "0", 0},
		{0, api.MaxFixed, strings.Repeat("0", api.MaxFixed), 0},
		{1, 3, "494", -326},
		{pattern(998.5), 3, "998", 0},
		{pattern(3.5), 1, "4", 0},
		{pattern(9.5), 1, "1", 1},
		{pattern(8.5), 1, "8", 0},
		{pattern(8.5) + 1, 1, "9", 0},
		{pattern(9.5) - 1, 1, "9", 0},
		{pattern(99), 1, "1", 2},
		{pattern(-99.75), 2, "10", 1},
		{pattern(0.99609375), 2, "10", -1},
		{pattern(1e22), 1, "1", 22},
		{pattern(1e22), 3, "100", 20},
		{pattern(1e22), 23, "1" + strings.Repeat("0", 22), 0},
		{pattern(123.25), 4, "1232", -1},
		{pattern(123.75), 4, "1238", -1},
		{pattern(10), 1, "1", 1},
		{pattern(10), 2, "10", 0},
		{pattern(105), 2, "10", 1},
		{pattern(115), 2, "12", 1},
	} {
		if d, e, bad := expand.Precise(c.b, c.n); d != c.d || e != c.e || bad != api.OK {
			t.Errorf("Precise(%x, %d) = %s, %d, %d, want %s, %d", c.b, c.n, d, e, bad, c.d, c.e)
		}
	}
}

// P13.4: the chapter's example 5; the pattern 2, whose interval holds three numbers of one digit; ends that are taken and
// ends that are not; numbers just between two, and such as have the nearer one outside of the interval.
func TestShortestExamples(t *testing.T) {
	for _, c := range []struct {
		b uint64
		d string
		e int
	}{
		{tenth, "1", -1},
		{1, "5", -324},
		{2, "1", -323},
		{3, "15", -324},
		{0x44b52d02c7e14af6, "1", 23},
		{0x44b52d02c7e14af5, "9999999999999997", 7},
		{0x44b52d02c7e14af7, "10000000000000001", 7},
		{0, "0", 0},
		{0x43e0000000000000, "9223372036854776", 3},
		{0x4340000000000000, "9007199254740992", 0},
		{0x4350000000000000, "18014398509481984", 0},
		{0x4310000000000001, "11258999068426242", -1},
		{0x4310000000000003, "11258999068426248", -1},
		{0x3e70000000000000, "5960464477539063", -23},
		{0x0010000000000000, "22250738585072014", -324},
		{greatest, "17976931348623157", 292},
		{pattern(1), "1", 0},
		{pattern(9.5), "95", -1},
		{pattern(1000), "1", 3},
	} {
		for _, b := range []uint64{c.b, c.b | minus} {
			if d, e, bad := expand.Shortest(b); d != c.d || e != c.e || bad != api.OK {
				t.Errorf("Shortest(%x) = %s, %d, %d, want %s, %d", b, d, e, bad, c.d, c.e)
			}
		}
	}
}

// strange are patterns that have no number.
func strange() []uint64 {
	var out []uint64
	for _, b := range []uint64{infinite, infinite + 1, 0x7ff8000000000000, 0x7fffffffffffffff} {
		out = append(out, b, b|minus)
	}
	return out
}

// P13.1 to P13.4: patterns that are infinite, or none of a number.
func TestNotFinite(t *testing.T) {
	for _, b := range strange() {
		if d, e, bad := expand.Digits(b); d != "" || e != 0 || bad != api.ErrFinite {
			t.Errorf("Digits(%x) = %q, %d, %d", b, d, e, bad)
		}
		if d, e, bad := expand.Shortest(b); d != "" || e != 0 || bad != api.ErrFinite {
			t.Errorf("Shortest(%x) = %q, %d, %d", b, d, e, bad)
		}
		for _, n := range []int{0, 1, 17, api.MaxFixed} {
			if s, bad := expand.Fixed(b, n); s != "" || bad != api.ErrFinite {
				t.Errorf("Fixed(%x, %d) = %q, %d", b, n, s, bad)
			}
			d, e, bad := expand.Precise(b, max(n, 1))
			if d != "" || e != 0 || bad != api.ErrFinite {
				t.Errorf("Precise(%x, %d) = %q, %d, %d", b, n, d, e, bad)
			}
		}
	}
}

// P13.2, P13.3: numbers of digits that may not be, whatever the pattern: ErrFixed goes ahead of ErrFinite.
func TestNoSuchNumberOfDigits(t *testing.T) {
	for _, b := range append(strange(), 0, minus, 1, tenth, greatest) {
		for _, n := range []int{-1, api.MaxFixed + 1, -api.MaxFixed, 1 << 32, math.MinInt, math.MaxInt} {
			if s, bad := expand.Fixed(b, n); s != "" || bad != api.ErrFixed {
				t.Errorf("Fixed(%x, %d) = %.20q, %d", b, n, s, bad)
			}
			if d, e, bad := expand.Precise(b, n); d != "" || e != 0 || bad != api.ErrFixed {
				t.Errorf("Precise(%x, %d) = %.20q, %d, %d", b, n, d, e, bad)
			}
		}
		if d, e, bad := expand.Precise(b, 0); d != "" || e != 0 || bad != api.ErrFixed {
			t.Errorf("Precise(%x, 0) = %.20q, %d, %d", b, d, e, bad)
		}
	}
}
