package f64_test

import (
	"math"
	"math/big"
	"testing"

	"plumb/api"
	"plumb/f64"
	"plumb/sample"
)

// P6.3: the examples.
func TestJoinExamples(t *testing.T) {
	for _, c := range []struct {
		neg  bool
		mant uint64
		exp  int
		want uint64
	}{
		{false, 1, 0, one},
		{false, 3, -1, 0x3ff8000000000000},
		{true, 3, -1, 0xbff8000000000000},
		{false, 1, -1074, 1},
		{true, 1, -1074, 0x8000000000000001},
		{false, 2, -1075, 1},
		{false, 1 << 63, -1137, 1},
		{false, 1 << 52, -1074, 0x0010000000000000},
		{false, 1<<52 - 1, -1074, 0x000fffffffffffff},
		{false, 18014398509481984, 0, 0x4350000000000000},
		{false, 1, 1023, 0x7fe0000000000000},
		{false, 1 << 63, 960, 0x7fe0000000000000},
		{false, 9007199254740991, 971, greatest},
		{true, 9007199254740991, 971, least},
		{false, 9007199254740991 << 11, 960, greatest},
	} {
		if b, e := f64.Join(c.neg, c.mant, c.exp); b != c.want || e != api.OK {
			t.Errorf("Join(%v, %d, %d) = %x, %d, want %x", c.neg, c.mant, c.exp, b, e, c.want)
		}
	}
}

// P6.3: the mantissa 0 is 0 or -0, whatever the exponent.
func TestJoinZero(t *testing.T) {
	for _, exp := range []int{0, 1, -1074, -1075, 971, 1024, 1 << 62, math.MaxInt, math.MinInt} {
		if b, e := f64.Join(false, 0, exp); b != 0 || e != api.OK {
			t.Errorf("Join(false, 0, %d) = %x, %d", exp, b, e)
		}
		if b, e := f64.Join(true, 0, exp); b != minusZero || e != api.OK {
			t.Errorf("Join(true, 0, %d) = %x, %d", exp, b, e)
		}
	}
}

// P6.3: too many bits, too fine, too great, and the ends of int.
func TestJoinRefused(t *testing.T) {
	for _, c := range []struct {
		mant uint64
		exp  int
	}{
		{1, -1075}, {3, -1075}, {9007199254740991, -1075}, {1 << 62, -1137}, {1 << 63, -1138}, {1 << 63, -1139},
		{9007199254740993, 0}, {math.MaxUint64, 0}, {math.MaxUint64, -1074}, {1<<63 + 1, 0},
		{1, 1024}, {2, 1023}, {9007199254740991, 972}, {1 << 63, 961}, {math.MaxUint64, 960}, {math.MaxUint64, 1023},
		{1, math.MaxInt}, {1, math.MinInt}, {math.MaxUint64, math.MaxInt}, {math.MaxUint64, math.MinInt},
		{1 << 63, math.MaxInt - 62}, {1 << 63, math.MinInt + 63},
	} {
		for _, neg := range []bool{false, true} {
			if b, e := f64.Join(neg, c.mant, c.exp); b != 0 || e != api.ErrExact {
				t.Errorf("Join(%v, %d, %d) = %x, %d, want ErrExact", neg, c.mant, c.exp, b, e)
			}
		}
	}
}

// mantissas are words in which the highest and the lowest bit 1 stand at telling places.
func mantissas() []uint64 {
	rule := sample.Rule(63)
	out := []uint64{1, 2, 3, 1<<52 - 1, 1 << 52, 1<<53 - 1, 1 << 53, 1<<53 + 1, 1<<53 + 2, 1 << 63, math.MaxUint64}
	for n := range 64 {
		out = append(out, rule.Next()>>n, rule.Next()>>n<<n, rule.Next()>>11>>n<<n|1<<n, (1<<53-1)<<n)
	}
	return out
}

// P6.3: the pattern that is asked for, or none, as the floats have it, at every exponent near an edge.
func TestJoinOfFloats(t *testing.T) {
	for _, mant := range mantissas() {
		for _, from := range []int{-1140, -60, 890, 955} {
			for exp := from; exp < from+80; exp++ {
				number := new(big.Float).SetPrec(64).SetUint64(mant)
				number.SetMantExp(number, exp)
				f, told := number.Float64()
				b, e := f64.Join(false, mant, exp)
				if told == big.Exact {
					if b != math.Float64bits(f) || e != api.OK {
						t.Fatalf("Join(false, %d, %d) = %x, %d, want %x", mant, exp, b, e, math.Float64bits(f))
					}
				} else if b != 0 || e != api.ErrExact {
					t.Fatalf("Join(false, %d, %d) = %x, %d, want ErrExact", mant, exp, b, e)
				}
			}
		}
	}
}

// P6.7: a mantissa twice as great with an exponent one less is the same.
func TestJoinTwice(t *testing.T) {
	for _, mant := range mantissas() {
		if mant>>63 == 1 {
			continue
		}
		for exp := -1140; exp < 1030; exp += 3 {
			for _, neg := range []bool{false, true} {
				a, e := f64.Join(neg, mant, exp)
				b, f := f64.Join(neg, 2*mant, exp-1)
				if a != b || e != f {
					t.Fatalf("Join(%v, %d, %d) = %x, %d, but twice and half %x, %d", neg, mant, exp, a, e, b, f)
				}
			}
		}
	}
}
