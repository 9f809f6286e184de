package lemire_test

import (
	"math"
	"math/big"
	"testing"

	"plumb/api"
	"plumb/lemire"
	"plumb/sample"
)

// P10.2: the chapter's examples 2 and 3.
func TestFastExamples(t *testing.T) {
	for _, c := range []struct {
		mant uint64
		exp  int
		want uint64
		bad  api.Errno
	}{
		{1, 0, 0x3ff0000000000000, api.OK},
		{1, 23, 0x44b52d02c7e14af6, api.OK},
		{9007199254740993, 0, 0x4340000000000000, api.OK},
		{90071992547409930, -1, 0, api.ErrUnsure},
		{5, -324, 1, api.OK},
		{2, -324, 0, api.OK},
		{3, -324, 1, api.OK},
		{0, math.MinInt, 0, api.OK},
		{0, 9999, 0, api.OK},
		{18446744073709551615, -349, 0, api.OK},
		{1, math.MinInt, 0, api.OK},
		{1, 348, 0, api.ErrOverflow},
		{1, math.MaxInt, 0, api.ErrOverflow},
		{1, 308, 0x7fe1ccf385ebc8a0, api.OK},
		{1, 309, 0, api.ErrOverflow},
		{17976931348623157, 292, 0x7fefffffffffffff, api.OK},
		{17976931348623159, 292, 0, api.ErrOverflow},
		{18446744073709551615, -348, 0, api.OK},
	} {
		if b, bad := lemire.Fast(c.mant, c.exp); b != c.want || bad != c.bad {
			t.Errorf("Fast(%d, %d) = %x, %d, want %x, %d", c.mant, c.exp, b, bad, c.want, c.bad)
		}
	}
}

// bounds gives what mant is multiplied with for the lower and for the upper bound of ten to the exp: five to the exp in
// 128 bits, rounded down and rounded up, times two to the exp.
func bounds(exp int) (*big.Rat, *big.Rat) {
	five := to(5, exp)
	frame := five.Num().BitLen() - five.Denom().BitLen() - 128
	if new(big.Rat).Mul(five, to(2, -frame)).Cmp(to(2, 127)) < 0 {
		frame--
	} else if new(big.Rat).Mul(five, to(2, -frame)).Cmp(to(2, 128)) >= 0 {
		frame++
	}
	framed := new(big.Rat).Mul(five, to(2, -frame))
	low, rest := new(big.Int).QuoRem(framed.Num(), framed.Denom(), new(big.Int))
	high := new(big.Int).Set(low)
	if rest.Sign() != 0 {
		high.Add(high, big.NewInt(1))
	}
	by := to(2, frame+exp)
	return new(big.Rat).Mul(new(big.Rat).SetInt(low), by), new(big.Rat).Mul(new(big.Rat).SetInt(high), by)
}

// between gives what Fast is to answer of a mantissa that isn't 0 and a power of ten with these bounds.
func between(mant uint64, low *big.Rat, high *big.Rat) (uint64, api.Errno) {
	a, aOver := nearest(new(big.Rat).Mul(whole(mant), low))
	b, bOver := nearest(new(big.Rat).Mul(whole(mant), high))
	switch {
	case aOver && bOver:
		return 0, api.ErrOverflow
	case aOver != bOver || a != b:
		return 0, api.ErrUnsure
	}
	return a, api.OK
}

// floor gives the greatest whole number that isn't above q by ten to the exp, if it is a word above 0.
func floor(q *big.Rat, exp int) (uint64, bool) {
	by := new(big.Rat).Mul(q, to(10, -exp))
	out := new(big.Int).Quo(by.Num(), by.Denom())
	return out.Uint64(), out.IsUint64() && out.Sign() > 0
}

// middle gives the number just between a pattern, which isn't negative, and the next one. Behind the greatest that is
// where overflow begins.
func middle(b uint64) *big.Rat {
	low := new(big.Rat).SetFloat64(math.Float64frombits(b))
	unit := max(int(b>>52), 1) - 1075
	return low.Add(low, to(2, unit-1))
}

// fastMants gives mantissas that tell for an exponent: words of few and of all bits, others by a fixed rule, and such
// as bring the number next to the middle of two patterns, to the end of the subnormals, of 0, and of all patterns.
func fastMants(exp int, rule *sample.Rule) []uint64 {
	out := []uint64{1, 2, 3, 10, 1<<53 - 1, 1 << 53, 1<<53 + 1, 1<<54 + 1, 1 << 63, 1<<63 + 1, math.MaxUint64, math.MaxUint64 - 1}
	for range 6 {
		out = append(out, rule.Next(), rule.Next()>>rule.Below(64))
	}
	spots := []uint64{0, 1, 0x000ffffffffffffe, 0x000fffffffffffff, 0x0010000000000000, 0x7feffffffffffffe, 0x7fefffffffffffff}
	for range 6 {
		f, _ := decimal(rule.Next()|1<<63, exp).Float64()
		spots = append(spots, math.Float64bits(min(f, math.MaxFloat64)))
	}
	for _, b := range spots {
		if mant, ok := floor(middle(b), exp); ok {
			out = append(out, mant, max(mant, 2)-1, min(mant, math.MaxUint64-1)+1)
		}
	}
	return out
}

// P10.2: every exponent of the table, by the definition; where a pattern is answered, it is the number's own, and where
// the power is whole there is always an answer.
func TestFastIsTheDefinition(t *testing.T) {
	rule := sample.Rule(0x2545f4914f6cdd1d)
	for exp := api.LeastFive; exp <= api.MostFive; exp++ {
		low, high := bounds(exp)
		for _, mant := range fastMants(exp, &rule) {
			want, wantBad := between(mant, low, high)
			b, bad := lemire.Fast(mant, exp)
			if b != want || bad != wantBad {
				t.Errorf("Fast(%d, %d) = %x, %d, want %x, %d", mant, exp, b, bad, want, wantBad)
			}
			own, over := nearest(decimal(mant, exp))
			if bad != api.ErrUnsure && (b != own || over != (bad == api.ErrOverflow)) {
				t.Errorf("Fast(%d, %d) = %x, %d, but the number is %x", mant, exp, b, bad, own)
			}
			if exp >= 0 && exp <= 55 && bad != api.OK {
				t.Errorf("Fast(%d, %d) = %x, %d: the power is whole", mant, exp, b, bad)
			}
		}
	}
}

// P10.2: ties that are written with a power of ten below 1 are never guessed; written as whole numbers they are told.
func TestFastTies(t *testing.T) {
	ten := uint64(1)
	for exp := 0; exp >= -3; exp-- {
		for _, odd := range []uint64{1<<53 + 1, 1<<53 + 3, 1<<53 + 333, 1<<54 - 3, 1<<54 - 1} {
			want, wantBad := uint64(0), api.ErrUnsure
			if exp == 0 {
				want, wantBad = math.Float64bits(float64(odd)), api.OK
			}
			if b, bad := lemire.Fast(odd*ten, exp); b != want || bad != wantBad {
				t.Errorf("Fast(%d, %d) = %x, %d, want %x, %d", odd*ten, exp, b, bad, want, wantBad)
			}
		}
		ten *= 10
	}
}

// P10.2: mantissa 0, whatever the exponent; and, with any other, exponents outside the table.
func TestFastOutsideTheTable(t *testing.T) {
	for _, exp := range []int{math.MinInt, math.MinInt + 1, math.MinInt32, -1 << 40, -350, -349} {
		for _, mant := range []uint64{0, 1, 1 << 63, math.MaxUint64} {
			if b, bad := lemire.Fast(mant, exp); b != 0 || bad != api.OK {
				t.Errorf("Fast(%d, %d) = %x, %d", mant, exp, b, bad)
			}
		}
	}
	for _, exp := range []int{math.MaxInt, math.MaxInt - 1, math.MaxInt32, 1 << 40, 349, 348} {
		for _, mant := range []uint64{1, 1 << 63, math.MaxUint64} {
			if b, bad := lemire.Fast(mant, exp); b != 0 || bad != api.ErrOverflow {
				t.Errorf("Fast(%d, %d) = %x, %d", mant, exp, b, bad)
			}
		}
	}
	for _, exp := range []int{math.MinInt, -349, -348, -1, 0, 1, 347, 348, math.MaxInt} {
		if b, bad := lemire.Fast(0, exp); b != 0 || bad != api.OK {
			t.Errorf("Fast(0, %d) = %x, %d", exp, b, bad)
		}
	}
}
