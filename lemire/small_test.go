package lemire_test

import (
	"math"
	"math/big"
	"strconv"
	"testing"

	"plumb/lemire"
	"plumb/sample"
)

// mostSmall is the greatest mantissa that Small takes.
const mostSmall = 1 << 53

// to gives base to the n, which may lie below 0.
func to(base int64, n int) *big.Rat {
	out := new(big.Rat).SetInt(new(big.Int).Exp(big.NewInt(base), big.NewInt(int64(max(n, -n))), nil))
	if n < 0 {
		out.Inv(out)
	}
	return out
}

// whole is a word as a rational.
func whole(w uint64) *big.Rat {
	return new(big.Rat).SetInt(new(big.Int).SetUint64(w))
}

// decimal is mant times ten to the exp, exactly.
func decimal(mant uint64, exp int) *big.Rat {
	return new(big.Rat).Mul(whole(mant), to(10, exp))
}

// nearest rounds an exact number by another road, and tells whether it overflows: then the pattern is 0.
func nearest(q *big.Rat) (uint64, bool) {
	f, _ := q.Float64()
	if math.IsInf(f, 0) {
		return 0, true
	}
	return math.Float64bits(f), false
}

// smallMants are mantissas that Small takes: its ends, few bits, all bits, and such as come of a fixed rule.
func smallMants() []uint64 {
	out := []uint64{0, mostSmall, mostSmall - 1, mostSmall - 2}
	for n := range 53 {
		out = append(out, 1<<n, 1<<n+1, 1<<n-1)
	}
	rule := sample.Rule(0x9e3779b97f4a7c15)
	for range 300 {
		out = append(out, rule.Next()>>11>>rule.Below(53))
	}
	return out
}

// P10.1: the chapter's example 1.
func TestSmallExamples(t *testing.T) {
	for _, c := range []struct {
		mant uint64
		exp  int
		want uint64
		ok   bool
	}{
		{1, 0, 0x3ff0000000000000, true},
		{1, 22, 0x4480f0cf064dd592, true},
		{1, -1, 0x3fb999999999999a, true},
		{0, 5, 0, true},
		{9007199254740992, 0, 0x4340000000000000, true},
		{9007199254740993, 0, 0, false},
		{1, 23, 0, false},
		{0, -23, 0, false},
	} {
		if b, ok := lemire.Small(c.mant, c.exp); b != c.want || ok != c.ok {
			t.Errorf("Small(%d, %d) = %x, %v, want %x, %v", c.mant, c.exp, b, ok, c.want, c.ok)
		}
	}
	for _, mant := range []uint64{9007199254740991, 3} {
		if _, ok := lemire.Small(mant, -22); !ok {
			t.Errorf("Small(%d, -22) is refused", mant)
		}
	}
}

// P10.1: every exponent that it takes, rounded once.
func TestSmallIsTheNearest(t *testing.T) {
	for exp := -22; exp <= 22; exp++ {
		for _, mant := range smallMants() {
			want, _ := nearest(decimal(mant, exp))
			if b, ok := lemire.Small(mant, exp); b != want || !ok {
				t.Errorf("Small(%d, %d) = %x, %v, want %x", mant, exp, b, ok, want)
			}
		}
	}
}

// P10.1: long runs of mantissas, so that some numbers lie so near to the middle of two patterns that a word of their
// highest bits does not tell on which side.
func TestSmallRuns(t *testing.T) {
	for exp := -22; exp <= 22; exp++ {
		for mant := uint64(mostSmall); mant > mostSmall-8000; mant-- {
			want, _ := strconv.ParseFloat(strconv.FormatUint(mant, 10)+"e"+strconv.Itoa(exp), 64)
			if b, ok := lemire.Small(mant, exp); b != math.Float64bits(want) || !ok {
				t.Fatalf("Small(%d, %d) = %x, %v, want %x", mant, exp, b, ok, math.Float64bits(want))
			}
		}
	}
}

// P10.1: products that lie just between two patterns go to the even one, whichever that is.
func TestSmallTies(t *testing.T) {
	five := uint64(1)
	for exp := 1; exp <= 22; exp++ {
		five *= 5
		// The least mantissas whose products with the power of five have 54 bits: the odd ones are ties.
		first := (mostSmall+five-1)/five | 1
		for mant := first; mant < first+16 && mant*five < 2*mostSmall; mant += 2 {
			low := mant * five / 2
			want := math.Float64bits(math.Ldexp(float64(low+low%2), exp+1))
			if b, ok := lemire.Small(mant, exp); b != want || !ok {
				t.Errorf("Small(%d, %d) = %x, %v, want %x", mant, exp, b, ok, want)
			}
		}
	}
}

// P10.1: all else is refused, and nothing answered.
func TestSmallRefuses(t *testing.T) {
	for _, exp := range []int{-23, 23, -24, 24, -348, 347, 1 << 32, -1 << 32, math.MinInt, math.MinInt + 1, math.MaxInt} {
		for _, mant := range []uint64{0, 1, mostSmall, mostSmall + 1, math.MaxUint64} {
			if b, ok := lemire.Small(mant, exp); b != 0 || ok {
				t.Errorf("Small(%d, %d) = %x, %v", mant, exp, b, ok)
			}
		}
	}
	for _, mant := range []uint64{mostSmall + 1, mostSmall + 2, mostSmall << 1, 1 << 63, math.MaxUint64} {
		for exp := -23; exp <= 23; exp++ {
			if b, ok := lemire.Small(mant, exp); b != 0 || ok {
				t.Errorf("Small(%d, %d) = %x, %v", mant, exp, b, ok)
			}
		}
	}
}
