package near_test

import (
	"math"
	"math/big"
	"testing"

	"plumb/api"
	"plumb/near"
	"plumb/sample"
)

// P7.2: the chapter's example 6.
func TestScaledExamples(t *testing.T) {
	const big53 = 0x4340000000000000
	for _, c := range []struct {
		neg    bool
		mant   list
		exp    int
		sticky bool
		mode   int
		want   uint64
	}{
		{false, list{1}, -1074, false, api.Even, 1},
		{false, list{1}, -1075, true, api.Even, 1},
		{false, list{1}, -1075, false, api.Even, 0},
		{false, nil, 0, true, api.Even, 0},
		{false, nil, 0, true, api.Up, 1},
		{true, nil, 7, true, api.Down, minus | 1},
		{true, nil, 7, true, api.Up, minus},
		{false, nil, 0, false, api.Up, 0},
		{false, number("9007199254740993"), 0, true, api.Even, big53 + 1},
		{false, number("9007199254740992"), 0, true, api.Even, big53},
		{false, number("9007199254740992"), 0, true, api.Up, big53 + 1},
		{false, list{1}, 1 << 62, false, api.Inward, greatest},
		{false, list{1}, -1 << 62, false, api.Even, 0},
		{false, list{1}, -1 << 62, false, api.Up, 1},
		{false, nil, 1 << 62, false, api.Outward, 0},
	} {
		if b, e := near.Scaled(c.neg, c.mant, c.exp, c.sticky, c.mode); b != c.want || e != api.OK {
			t.Errorf("Scaled(%v, %v, %d, %v, %d) = %x, %d, want %x", c.neg, c.mant, c.exp, c.sticky, c.mode, b, e, c.want)
		}
	}
	if b, e := near.Scaled(false, list{1}, 1<<62, false, api.Even); b != 0 || e != api.ErrOverflow {
		t.Errorf("2^(2^62): %x, %d", b, e)
	}
}

// P7.2: a wrong mode, whatever else is given.
func TestScaledErrors(t *testing.T) {
	for _, mode := range wrongModes {
		for _, mant := range []list{nil, {1}, sample.Of(5000, 1)} {
			for _, exp := range []int{0, math.MaxInt, math.MinInt} {
				if b, e := near.Scaled(true, mant, exp, true, mode); b != 0 || e != api.ErrMode {
					t.Errorf("mode %d: %x, %d", mode, b, e)
				}
			}
		}
	}
}

// holdScaled holds Scaled of both signs, in all modes, to what floats say; a little more than mant is less than a hair.
func holdScaled(t *testing.T, mant list, exp int) {
	t.Helper()
	q := twoBy(sample.Number(mant), exp)
	more := new(big.Rat).Add(q, twoBy(big.NewInt(1), min(exp, -1100)-100))
	for i := range 20 {
		neg, sticky, mode := i%2 == 0, i/2%2 == 0, i/4
		size := q
		if sticky {
			size = more
		}
		want, f := rounded(neg, size, mode)
		if b, e := near.Scaled(neg, mant, exp, sticky, mode); b != want || e != f {
			t.Errorf("Scaled(%v, %v, %d, %v, %d) = %x, %d, want %x, %d", neg, mant, exp, sticky, mode, b, e, want, f)
		}
	}
}

// P7.2: all telling lists at all telling exponents.
func TestScaledOfLists(t *testing.T) {
	for _, mant := range sample.Lists() {
		for _, exp := range []int{-1300, -1204, -1139, -1138, -1137, -1076, -1075, -1074, -1073, -1022, -129, -65, -64, -53, -1, 0, 1, 64, 842, 906, 907, 908, 959, 960, 961, 970, 971, 972, 1022, 1023, 1024, 1100} {
			holdScaled(t, mant, exp)
		}
	}
}

// P7.2: mantissas of 50 to 60 bits, all ones, or one beside a power of two, or any, at edges of the exponent.
func TestScaledAtTheEdges(t *testing.T) {
	rule := sample.Rule(72)
	for bits := 50; bits <= 60; bits++ {
		for _, mant := range []uint64{1 << (bits - 1), 1<<(bits-1) + 1, 1<<bits - 1, 1<<bits - 2, 1<<bits - 3, rule.Next()>>(64-bits) | 1} {
			for _, at := range []int{-1076, -1075, -1074, -1073, -1023, -1022, -1021, 0, 1022, 1023, 1024, 1025} {
				holdScaled(t, list{mant}, at-bits)
				holdScaled(t, list{mant}, at)
			}
		}
	}
}

// P7.2: any mantissas at any exponents.
func TestScaledOfAnyLists(t *testing.T) {
	rule := sample.Rule(73)
	for range 1000 {
		mant := rule.List(rule.Below(10))
		holdScaled(t, mant, rule.Below(2800)-1500-64*len(mant))
	}
}

// P7.2: exponents as far as an int goes, with mantissas that are short or long.
func TestScaledFar(t *testing.T) {
	for _, mant := range []list{{1}, {3, 0}, {math.MaxUint64}, sample.Of(5000, math.MaxUint64), sample.With(sample.Of(5000, 0), 1)} {
		for _, exp := range []int{1 << 20, 1 << 59, 1 << 60, 1 << 61, 1 << 62, math.MaxInt - 1, math.MaxInt} {
			for _, sticky := range []bool{false, true} {
				five{over, greatest, over, over, greatest}.hold(t, "far above", func(mode int) (uint64, api.Errno) { return near.Scaled(false, mant, exp, sticky, mode) })
				five{over, greatest | minus, over, greatest | minus, over}.hold(t, "far below 0", func(mode int) (uint64, api.Errno) { return near.Scaled(true, mant, exp, sticky, mode) })
				five{0, 0, 1, 1, 0}.hold(t, "tiny", func(mode int) (uint64, api.Errno) { return near.Scaled(false, mant, -exp, sticky, mode) })
				five{minus, minus, minus | 1, minus, minus | 1}.hold(t, "tiny below 0", func(mode int) (uint64, api.Errno) { return near.Scaled(true, mant, -exp-1, sticky, mode) })
			}
		}
	}
}

// P7.2: 0 at any exponent: just 0 in every mode, and with a little more the number that is nearest to it.
func TestScaledZero(t *testing.T) {
	for _, mant := range []list{nil, {0}, {0, 0, 0}, sample.Of(5000, 0)} {
		for _, exp := range []int{0, 7, 2000, -2000, -1074, 971, math.MaxInt, math.MinInt} {
			for _, neg := range []bool{false, true} {
				sign, up, down := uint64(0), uint64(1), uint64(0)
				if neg {
					sign, up, down = minus, 0, 1
				}
				five{sign, sign, sign, sign, sign}.hold(t, "0", func(mode int) (uint64, api.Errno) { return near.Scaled(neg, mant, exp, false, mode) })
				five{sign, sign, sign | 1, sign | up, sign | down}.hold(t, "a little", func(mode int) (uint64, api.Errno) { return near.Scaled(neg, mant, exp, true, mode) })
			}
		}
	}
}

// P7.2: mantissas of more words than may be answered: what tells stands at their low end.
func TestScaledOfLongNumbers(t *testing.T) {
	const words = 6000
	tie := sample.With(sample.Of(words, 0), 1<<53|1)
	above := sample.With(tie)
	above[0] = 1
	const big53 = 0x4340000000000000
	five{big53, big53, big53 + 1, big53 + 1, big53}.hold(t, "a tie", func(mode int) (uint64, api.Errno) { return near.Scaled(false, tie, -64*words, false, mode) })
	five{big53 + 1, big53, big53 + 1, big53 + 1, big53}.hold(t, "above it", func(mode int) (uint64, api.Errno) { return near.Scaled(false, above, -64*words, false, mode) })
	five{big53 + 1, big53, big53 + 1, big53 + 1, big53}.hold(t, "a little above it", func(mode int) (uint64, api.Errno) { return near.Scaled(false, tie, -64*words, true, mode) })
}
