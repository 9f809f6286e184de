package ryu_test

import (
	"math/big"
	"testing"

	"plumb/api"
	"plumb/ryu"
	"plumb/sample"
)

// number gives the exact number of a Rat.
func number(r api.Rat) *big.Rat {
	out := new(big.Rat).SetFrac(sample.Number(r.Num), sample.Number(r.Den))
	if r.Neg {
		out.Neg(out)
	}
	return out
}

// two gives two to the n.
func two(n int) *big.Rat {
	out := new(big.Rat).SetInt(new(big.Int).Lsh(big.NewInt(1), uint(max(n, -n))))
	if n < 0 {
		out.Inv(out)
	}
	return out
}

// sum gives a whole number times two to the m, and another times two to the n.
func sum(a int64, m int, b int64, n int) *big.Rat {
	first := new(big.Rat).Mul(big.NewRat(a, 1), two(m))
	return first.Add(first, new(big.Rat).Mul(big.NewRat(b, 1), two(n)))
}

// P12.2: the chapter's example 5, with either sign.
func TestIntervalExamples(t *testing.T) {
	for _, c := range []struct {
		b         uint64
		low, high *big.Rat
		in        bool
	}{
		{0x3ff0000000000000, sum(1, 0, -1, -54), sum(1, 0, 1, -53), true},
		{0x3ff0000000000001, sum(1, 0, 1, -53), sum(1, 0, 3, -53), false},
		{1, two(-1075), sum(3, -1075, 0, 0), false},
		{0, sum(-1, -1075, 0, 0), two(-1075), true},
		{0x0010000000000000, sum(1, -1022, -1, -1075), sum(1, -1022, 1, -1075), true},
		{0x7fefffffffffffff, sum(1, 1024, -3, 970), sum(1, 1024, -1, 970), false},
		{0x4000000000000000, sum(2, 0, -1, -53), sum(2, 0, 1, -52), true},
	} {
		for _, b := range []uint64{c.b, c.b | minus} {
			low, high, in, bad := ryu.Interval(b)
			if bad != api.OK || in != c.in || number(low).Cmp(c.low) != 0 || number(high).Cmp(c.high) != 0 {
				t.Errorf("Interval(%x) = %.60v, %.60v, %v, %d", b, low, high, in, bad)
			}
		}
	}
}

// P12.2 and P12.3: the middles to the neighbours, whatever the pattern; the ends are taken just if its lowest bit is 0;
// and below a power of two the interval reaches half as far, but of the least normal number and of the zeros.
func TestIntervalIsTheMiddles(t *testing.T) {
	for _, b := range sample.Patterns() {
		low, high, in, bad := ryu.Interval(b)
		wantLow, wantHigh := ends(b)
		if bad != api.OK || in != (b%2 == 0) || number(low).Cmp(wantLow) != 0 || number(high).Cmp(wantHigh) != 0 {
			t.Errorf("Interval(%x) = %.60v, %.60v, %v, %d", b, low, high, in, bad)
			continue
		}
		size := b &^ minus
		down, up := new(big.Rat).Sub(value(size), wantLow), new(big.Rat).Sub(wantHigh, value(size))
		if size<<12 == 0 && size > 0x0010000000000000 {
			down.Add(down, down)
		}
		if down.Cmp(up) != 0 {
			t.Errorf("Interval(%x) reaches %v down and %v up", b, down, up)
		}
	}
}

// P12.2: Rats that are answered are Rats: in lowest terms, normal, and without a minus but of the zeros.
func TestIntervalIsInLowestTerms(t *testing.T) {
	for _, b := range sample.Patterns() {
		low, high, _, _ := ryu.Interval(b)
		for _, r := range []api.Rat{low, high} {
			q := number(r)
			if !sample.Is(r.Num, new(big.Int).Abs(q.Num())) || !sample.Is(r.Den, q.Denom()) || r.Neg != (q.Sign() < 0) {
				t.Errorf("Interval(%x) gives %.60v", b, r)
			}
		}
	}
}

// P12.4: writing into what is answered, or appending to it, changes no other list and no later answer.
func TestIntervalMemory(t *testing.T) {
	for _, b := range []uint64{0, minus, 1, 2, 0x3ff0000000000000, 0x0010000000000000, 0x7fefffffffffffff, 0x43e0000000000001} {
		bad := sample.Memory(func([][]uint64) [][]uint64 {
			low, high, _, _ := ryu.Interval(b)
			return [][]uint64{low.Num, low.Den, high.Num, high.Den}
		})
		if bad != "" {
			t.Errorf("Interval(%x): %s", b, bad)
		}
	}
}
