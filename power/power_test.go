package power_test

import (
	"math"
	"math/big"
	"sync"
	"testing"

	"plumb/api"
	"plumb/power"
)

// number is the number of two words, the higher first.
func number(hi, lo uint64) *big.Int {
	out := new(big.Int).SetUint64(hi)
	return out.Lsh(out, 64).Or(out, new(big.Int).SetUint64(lo))
}

// to gives base to the n, which is 0 or more.
func to(base int64, n int) *big.Int {
	return new(big.Int).Exp(big.NewInt(base), big.NewInt(int64(n)), nil)
}

// ratio gives base to the n, which may lie below 0.
func ratio(base int64, n int) *big.Rat {
	out := new(big.Rat).SetInt(to(base, max(n, -n)))
	if n < 0 {
		out.Inv(out)
	}
	return out
}

// times gives x times two to the n.
func times(x *big.Int, n int) *big.Rat {
	return new(big.Rat).Mul(new(big.Rat).SetInt(x), ratio(2, n))
}

// plus gives x and so many more.
func plus(x *big.Int, n int64) *big.Int {
	return new(big.Int).Add(x, big.NewInt(n))
}

// floor rounds a number that is not below 0 down, and tells whether that took nothing away.
func floor(q *big.Rat) (*big.Int, bool) {
	whole, rest := new(big.Int).QuoRem(q.Num(), q.Denom(), new(big.Int))
	return whole, rest.Sign() == 0
}

// P8.1: the chapter's examples 1 and 2.
func TestFiveExamples(t *testing.T) {
	for _, c := range []struct {
		e      int
		hi, lo uint64
		frame  int
	}{
		{0, 0x8000000000000000, 0, -127},
		{1, 0xa000000000000000, 0, -125},
		{2, 0xc800000000000000, 0, -123},
		{3, 0xfa00000000000000, 0, -121},
		{27, 0xcecb8f27f4200f3a, 0, -65},
		{28, 0x813f3978f8940984, 0x4000000000000000, -62},
		{-1, 0xcccccccccccccccc, 0xcccccccccccccccc, -130},
		{-2, 0xa3d70a3d70a3d70a, 0x3d70a3d70a3d70a3, -132},
	} {
		if hi, lo, frame, e := power.Five(c.e); hi != c.hi || lo != c.lo || frame != c.frame || e != api.OK {
			t.Errorf("Five(%d) = %x, %x, %d, %d", c.e, hi, lo, frame, e)
		}
	}
}

// P8.3: the chapter's examples 2 and 3.
func TestAboveExamples(t *testing.T) {
	for _, c := range []struct {
		e      int
		hi, lo uint64
		frame  int
	}{
		{-1, 0xcccccccccccccccc, 0xcccccccccccccccd, -130},
		{-2, 0xa3d70a3d70a3d70a, 0x3d70a3d70a3d70a4, -132},
		{0, 0x8000000000000000, 0, -127},
		{3, 0xfa00000000000000, 0, -121},
		{28, 0x813f3978f8940984, 0x4000000000000000, -62},
	} {
		if hi, lo, frame, e := power.Above(c.e); hi != c.hi || lo != c.lo || frame != c.frame || e != api.OK {
			t.Errorf("Above(%d) = %x, %x, %d, %d", c.e, hi, lo, frame, e)
		}
	}
}

// P8.1: every power of the table, by its definition.
func TestFiveIsTheTable(t *testing.T) {
	for e := api.LeastFive; e <= api.MostFive; e++ {
		hi, lo, frame, bad := power.Five(e)
		want, _ := floor(new(big.Rat).Mul(ratio(5, e), ratio(2, -frame)))
		if bad != api.OK || want.BitLen() != 128 || number(hi, lo).Cmp(want) != 0 {
			t.Errorf("Five(%d) = %x, %x, %d, %d, want %x", e, hi, lo, frame, bad, want)
		}
	}
}

// P8.2: every power of the table; whole are those from 0 to 55 and no other.
func TestWhole(t *testing.T) {
	for e := api.LeastFive; e <= api.MostFive; e++ {
		_, _, frame, _ := power.Five(e)
		_, want := floor(new(big.Rat).Mul(ratio(5, e), ratio(2, -frame)))
		if want != (e >= 0 && e <= 55) {
			t.Fatalf("the frame %d of %d leaves a whole number: %v", frame, e, want)
		}
		if whole, bad := power.Whole(e); whole != want || bad != api.OK {
			t.Errorf("Whole(%d) = %v, %d", e, whole, bad)
		}
	}
}

// P8.3: every power of the table: the least of 128 bits that is not below.
func TestAboveIsTheLeast(t *testing.T) {
	for e := api.LeastFive; e <= api.MostFive; e++ {
		hi, lo, frame, bad := power.Above(e)
		v, five := number(hi, lo), ratio(5, e)
		if bad != api.OK || v.BitLen() != 128 || times(v, frame).Cmp(five) < 0 || times(plus(v, -1), frame).Cmp(five) >= 0 {
			t.Errorf("Above(%d) = %x, %x, %d, %d", e, hi, lo, frame, bad)
		}
		low, last, same, _ := power.Five(e)
		if whole, _ := power.Whole(e); whole != (low == hi && last == lo) || frame != same {
			t.Errorf("Above(%d) = %x, %x, %d, but Five is %x, %x, %d", e, hi, lo, frame, low, last, same)
		}
	}
}

// P8.4: the chapter's example 5.
func TestLogExamples(t *testing.T) {
	for e, want := range map[int]int{0: 0, 1: 3, 2: 6, -1: -4, -2: -7} {
		if k, bad := power.Log2(e); k != want || bad != api.OK {
			t.Errorf("Log2(%d) = %d, %d", e, k, bad)
		}
	}
	for e, want := range map[int]int{0: 0, 1: 0, 10: 3, -1: -1, -4: -2, 1200: 361} {
		if k, bad := power.Log10(e); k != want || bad != api.OK {
			t.Errorf("Log10(%d) = %d, %d", e, k, bad)
		}
	}
}

// atMost tells whether base to the k is the greatest power of base with a whole exponent that is not above x.
func atMost(base int64, k int, x *big.Rat) bool {
	return ratio(base, k).Cmp(x) <= 0 && ratio(base, k+1).Cmp(x) > 0
}

// P8.4: every exponent that may be asked for, by the definition.
func TestLogs(t *testing.T) {
	for e := api.LeastFive; e <= api.MostFive; e++ {
		if k, bad := power.Log2(e); bad != api.OK || !atMost(2, k, ratio(10, e)) {
			t.Errorf("Log2(%d) = %d, %d", e, k, bad)
		}
	}
	for e := -1200; e <= 1200; e++ {
		if k, bad := power.Log10(e); bad != api.OK || !atMost(10, k, ratio(2, e)) {
			t.Errorf("Log10(%d) = %d, %d", e, k, bad)
		}
	}
}

// P8.1 to P8.4: what is not in the table is refused, and nothing else answered; its ends are taken.
func TestOutsideTheTable(t *testing.T) {
	for _, e := range []int{-349, 348, -350, 349, -696, 1 << 20, -1 << 20, math.MinInt, math.MinInt + 1, math.MinInt32, math.MaxInt32, math.MaxInt} {
		if hi, lo, frame, bad := power.Five(e); hi != 0 || lo != 0 || frame != 0 || bad != api.ErrFive {
			t.Errorf("Five(%d) = %x, %x, %d, %d", e, hi, lo, frame, bad)
		}
		if whole, bad := power.Whole(e); whole || bad != api.ErrFive {
			t.Errorf("Whole(%d) = %v, %d", e, whole, bad)
		}
		if hi, lo, frame, bad := power.Above(e); hi != 0 || lo != 0 || frame != 0 || bad != api.ErrFive {
			t.Errorf("Above(%d) = %x, %x, %d, %d", e, hi, lo, frame, bad)
		}
		if k, bad := power.Log2(e); k != 0 || bad != api.ErrFive {
			t.Errorf("Log2(%d) = %d, %d", e, k, bad)
		}
	}
	for _, e := range []int{1201, -1201, 1 << 40, -1 << 40, math.MinInt, math.MaxInt} {
		if k, bad := power.Log10(e); k != 0 || bad != api.ErrFive {
			t.Errorf("Log10(%d) = %d, %d", e, k, bad)
		}
	}
}

// P8.5: by natural numbers, on both sides of 1.
func TestBounds(t *testing.T) {
	for e := api.LeastFive; e <= api.MostFive; e++ {
		hi, lo, frame, _ := power.Five(e)
		low := number(hi, lo)
		high := plus(low, 1)
		middle := to(5, max(e, 0))
		if e < 0 {
			five := to(5, -e)
			low.Mul(low, five)
			high.Mul(high, five)
		}
		// What the frame says stands on one side or on the other, so that all are whole.
		low.Lsh(low, uint(max(frame, 0)))
		high.Lsh(high, uint(max(frame, 0)))
		middle.Lsh(middle, uint(max(-frame, 0)))
		if low.Cmp(middle) > 0 || middle.Cmp(high) >= 0 {
			t.Errorf("Five(%d) = %x, %x, %d is beside five to the %d", e, hi, lo, frame, e)
		}
	}
}

// P8.5: Log2 is the frame, 127 and e; the frames rise by 2 or 3.
func TestFrames(t *testing.T) {
	_, _, last, _ := power.Five(api.LeastFive)
	for e := api.LeastFive; e <= api.MostFive; e++ {
		_, _, frame, _ := power.Five(e)
		if k, _ := power.Log2(e); k != frame+127+e {
			t.Errorf("Log2(%d) = %d, the frame is %d", e, k, frame)
		}
		if step := frame - last; e > api.LeastFive && step != 2 && step != 3 {
			t.Errorf("from %d to %d the frame rises by %d", e-1, e, step)
		}
		last = frame
	}
}

// P8.5: the product of two powers is not above the power of the sum, that of the next greater ones is.
func TestProducts(t *testing.T) {
	for a := api.LeastFive; a <= api.MostFive; a += 13 {
		for b := api.LeastFive; b <= api.MostFive; b += 11 {
			ahi, alo, ax, _ := power.Five(a)
			bhi, blo, bx, _ := power.Five(b)
			v, w := number(ahi, alo), number(bhi, blo)
			low := times(new(big.Int).Mul(v, w), ax+bx)
			high := times(new(big.Int).Mul(plus(v, 1), plus(w, 1)), ax+bx)
			if five := ratio(5, a+b); low.Cmp(five) > 0 || five.Cmp(high) >= 0 {
				t.Errorf("the product of the powers %d and %d", a, b)
			}
		}
	}
}

// answers are what all calls answer of an exponent.
type answers struct {
	five, above [2]uint64
	x, y        int
	whole       bool
	log2, log10 int
	errors      [5]api.Errno
}

// ask makes all calls.
func ask(e int) answers {
	var a answers
	a.five[0], a.five[1], a.x, a.errors[0] = power.Five(e)
	a.above[0], a.above[1], a.y, a.errors[1] = power.Above(e)
	a.whole, a.errors[2] = power.Whole(e)
	a.log2, a.errors[3] = power.Log2(e)
	a.log10, a.errors[4] = power.Log10(e)
	return a
}

// P8.6: many at once, in unlike orders, and one behind the other answer the same.
func TestDetermined(t *testing.T) {
	const count = 720
	var got [8][count]answers
	var all sync.WaitGroup
	for n := range got {
		all.Add(1)
		go func() {
			defer all.Done()
			for i := range count {
				// Steps that are prime to count: each goes through all exponents, in an order of its own.
				at := (i*[...]int{1, 7, 11, 13, 17, 719, 713, 709}[n] + n*90) % count
				got[n][at] = ask(at - 360)
			}
		}()
	}
	all.Wait()
	for at := range count {
		want := ask(at - 360)
		for n := range got {
			if got[n][at] != want {
				t.Errorf("of %d: %v beside others, %v alone", at-360, got[n][at], want)
			}
		}
	}
}
