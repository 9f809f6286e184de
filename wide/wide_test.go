package wide_test

import (
	"math"
	"math/big"
	"testing"

	"plumb/api"
	"plumb/wide"
)

const (
	m    = 18446744073709551615 // all bits 1
	top  = 9223372036854775808  // the highest bit alone
	half = 4294967296           // 2^32
)

// edges are words at which a carry, a half or a sign would show.
func edges() []uint64 {
	return []uint64{0, 1, 2, 3, 5, half - 1, half, half + 1, half * 3, top - 1, top, top + 1, m - half, m - half + 1, m - 1, m}
}

// samples are the edges, and words of all lengths from a fixed rule.
func samples() []uint64 {
	out := edges()
	x := uint64(0x9e3779b97f4a7c15)
	for i := range 24 {
		x ^= x << 13
		x ^= x >> 7
		x ^= x << 17
		out = append(out, x>>(i*5%64))
	}
	return out
}

// number is the number of some words, the highest first.
func number(words ...uint64) *big.Int {
	out := new(big.Int)
	for _, w := range words {
		out.Lsh(out, 64)
		out.Or(out, new(big.Int).SetUint64(w))
	}
	return out
}

// cut is x modulo 2^bits.
func cut(x *big.Int, bits uint) *big.Int {
	limit := new(big.Int).Lsh(big.NewInt(1), bits)
	return new(big.Int).Mod(x, limit)
}

func same(x *big.Int, words ...uint64) bool {
	return x.Cmp(number(words...)) == 0
}

func flag(b bool) uint64 {
	if b {
		return 1
	}
	return 0
}

// P1.1
func TestAddExamples(t *testing.T) {
	for _, c := range []struct{ a, b, carry, sum, on uint64 }{
		{m, 1, 0, 0, 1},
		{m, m, 1, m, 1},
		{1, 2, 7, 4, 0},
		{1, 2, 6, 3, 0},
		{0, 0, 0, 0, 0},
		{0, 0, 1, 1, 0},
		{m, 0, 1, 0, 1},
		{0, m, m, 0, 1},
		{0, m, m - 1, m, 0},
		{top, top, 0, 0, 1},
		{top, top - 1, 0, m, 0},
		{top, top - 1, 1, 0, 1},
	} {
		if sum, on := wide.Add(c.a, c.b, c.carry); sum != c.sum || on != c.on {
			t.Errorf("Add(%d, %d, %d) = %d, %d, want %d, %d", c.a, c.b, c.carry, sum, on, c.sum, c.on)
		}
	}
}

// P1.1
func TestAddIsTheSum(t *testing.T) {
	for _, a := range samples() {
		for _, b := range samples() {
			for _, carry := range []uint64{0, 1, 2, 3, top, m} {
				want := new(big.Int).Add(number(a), number(b))
				want.Add(want, number(carry%2))
				if sum, on := wide.Add(a, b, carry); !same(want, on, sum) {
					t.Errorf("Add(%d, %d, %d) = %d, %d, want %v in all", a, b, carry, sum, on, want)
				}
			}
		}
	}
}

// P1.2
func TestSubExamples(t *testing.T) {
	for _, c := range []struct{ a, b, borrow, diff, on uint64 }{
		{0, 0, 1, m, 1},
		{0, m, 1, 0, 1},
		{5, 3, 2, 2, 0},
		{5, 3, 3, 1, 0},
		{5, 5, 0, 0, 0},
		{5, 5, m, m, 1},
		{5, 5, m - 1, 0, 0},
		{3, 5, 0, m - 1, 1},
		{m, m, 0, 0, 0},
		{m, m, 1, m, 1},
		{top, top - 1, 1, 0, 0},
		{top - 1, top, 0, m, 1},
	} {
		if diff, on := wide.Sub(c.a, c.b, c.borrow); diff != c.diff || on != c.on {
			t.Errorf("Sub(%d, %d, %d) = %d, %d, want %d, %d", c.a, c.b, c.borrow, diff, on, c.diff, c.on)
		}
	}
}

// P1.2
func TestSubIsTheDifference(t *testing.T) {
	for _, a := range samples() {
		for _, b := range samples() {
			for _, borrow := range []uint64{0, 1, 2, 3, top, m} {
				whole := new(big.Int).Sub(number(a), number(b))
				whole.Sub(whole, number(borrow%2))
				diff, on := wide.Sub(a, b, borrow)
				if !same(cut(whole, 64), diff) || on != flag(whole.Sign() < 0) {
					t.Errorf("Sub(%d, %d, %d) = %d, %d, want %v", a, b, borrow, diff, on, whole)
				}
			}
		}
	}
}

// P1.3
func TestMulExamples(t *testing.T) {
	for _, c := range []struct{ a, b, hi, lo uint64 }{
		{m, m, 18446744073709551614, 1},
		{half, half, 1, 0},
		{0, m, 0, 0},
		{0, 0, 0, 0},
		{1, m, 0, m},
		{2, top, 1, 0},
		{half - 1, half + 1, 0, m},
	} {
		if hi, lo := wide.Mul(c.a, c.b); hi != c.hi || lo != c.lo {
			t.Errorf("Mul(%d, %d) = %d, %d, want %d, %d", c.a, c.b, hi, lo, c.hi, c.lo)
		}
	}
}

// P1.3
func TestMulIsTheProduct(t *testing.T) {
	for _, a := range samples() {
		for _, b := range samples() {
			want := new(big.Int).Mul(number(a), number(b))
			if hi, lo := wide.Mul(a, b); !same(want, hi, lo) {
				t.Errorf("Mul(%d, %d) = %d, %d, want %v", a, b, hi, lo, want)
			}
		}
	}
}

// P1.4
func TestMul3Examples(t *testing.T) {
	for _, c := range []struct{ hi, lo, b, x, y, z uint64 }{
		{m, m, m, 18446744073709551614, m, 1},
		{1, 0, 3, 0, 3, 0},
		{0, m, m, 0, m - 1, 1},
		{m, 0, m, m - 1, 1, 0},
		{0, 0, m, 0, 0, 0},
		{m, m, 0, 0, 0, 0},
		{m, m, 1, 0, m, m},
		{top, 0, 2, 1, 0, 0},
	} {
		if x, y, z := wide.Mul3(c.hi, c.lo, c.b); x != c.x || y != c.y || z != c.z {
			t.Errorf("Mul3(%d, %d, %d) = %d, %d, %d, want %d, %d, %d", c.hi, c.lo, c.b, x, y, z, c.x, c.y, c.z)
		}
	}
}

// P1.4
func TestMul3IsTheProduct(t *testing.T) {
	for _, hi := range samples() {
		for _, lo := range samples() {
			for _, b := range samples() {
				want := new(big.Int).Mul(number(hi, lo), number(b))
				if x, y, z := wide.Mul3(hi, lo, b); !same(want, x, y, z) {
					t.Fatalf("Mul3(%d, %d, %d) = %d, %d, %d, want %v", hi, lo, b, x, y, z, want)
				}
			}
		}
	}
}

// P1.5, P0.3
func TestDivExamples(t *testing.T) {
	for _, c := range []struct {
		hi, lo, b, q, r uint64
		e               api.Errno
	}{
		{0, 17, 5, 3, 2, api.OK},
		{4, 0, 5, 14757395258967641292, 4, api.OK},
		{m - 1, m, m, m, 18446744073709551614, api.OK},
		{0, 0, 7, 0, 0, api.OK},
		{0, m, 1, m, 0, api.OK},
		{top - 1, m, top, m, top - 1, api.OK},
		{half - 2, m, half - 1, m, half - 2, api.OK},
		{5, 0, 5, 0, 0, api.ErrQuotient},
		{6, 9, 5, 0, 0, api.ErrQuotient},
		{1, 0, 1, 0, 0, api.ErrQuotient},
		{m, m, m, 0, 0, api.ErrQuotient},
		{0, 0, 0, 0, 0, api.ErrDivisor},
		{7, 0, 0, 0, 0, api.ErrDivisor},
		{m, m, 0, 0, 0, api.ErrDivisor},
	} {
		if q, r, e := wide.Div(c.hi, c.lo, c.b); q != c.q || r != c.r || e != c.e {
			t.Errorf("Div(%d, %d, %d) = %d, %d, %d, want %d, %d, %d", c.hi, c.lo, c.b, q, r, e, c.q, c.r, c.e)
		}
	}
}

// wantDiv is what P1.5 and P0.3 ask of Div.
func wantDiv(hi, lo, b uint64) (*big.Int, *big.Int, api.Errno) {
	if b == 0 {
		return new(big.Int), new(big.Int), api.ErrDivisor
	}
	if hi >= b {
		return new(big.Int), new(big.Int), api.ErrQuotient
	}
	q, r := new(big.Int).QuoRem(number(hi, lo), number(b), new(big.Int))
	return q, r, api.OK
}

// P1.5, P0.3
func TestDivIsTheQuotient(t *testing.T) {
	for _, hi := range samples() {
		for _, lo := range samples() {
			for _, b := range samples() {
				wantQ, wantR, want := wantDiv(hi, lo, b)
				if q, r, e := wide.Div(hi, lo, b); !same(wantQ, q) || !same(wantR, r) || e != want {
					t.Fatalf("Div(%d, %d, %d) = %d, %d, %d, want %v, %v, %d", hi, lo, b, q, r, e, wantQ, wantR, want)
				}
			}
		}
	}
}

// P1.5: dividends just below and at a multiple of the divisor make the guess of a half too great, by 1 and by 2.
func TestDivNearMultiples(t *testing.T) {
	for _, b := range samples() {
		for _, q := range samples() {
			for _, less := range []uint64{0, 1, 2, half} {
				hi, lo := wide.Mul(q, b)
				lo, borrow := wide.Sub(lo, less, 0)
				hi, borrow = wide.Sub(hi, 0, borrow)
				if borrow != 0 {
					continue
				}
				wantQ, wantR, want := wantDiv(hi, lo, b)
				if q, r, e := wide.Div(hi, lo, b); !same(wantQ, q) || !same(wantR, r) || e != want {
					t.Errorf("Div(%d, %d, %d) = %d, %d, %d, want %v, %v, %d", hi, lo, b, q, r, e, wantQ, wantR, want)
				}
			}
		}
	}
}

// P1.6
func TestBitsExamples(t *testing.T) {
	for _, c := range []struct {
		x          uint64
		len, zeros int
	}{
		{0, 0, 64},
		{1, 1, 0},
		{255, 8, 0},
		{256, 9, 8},
		{96, 7, 5},
		{top, 64, 63},
		{m, 64, 0},
	} {
		if n, zeros := wide.Len(c.x), wide.Zeros(c.x); n != c.len || zeros != c.zeros {
			t.Errorf("of %d: Len %d, Zeros %d, want %d, %d", c.x, n, zeros, c.len, c.zeros)
		}
	}
}

// P1.6
func TestBitsOfAllLengths(t *testing.T) {
	for i := range 64 {
		one := uint64(1) << i
		for _, x := range []uint64{one, one | 1, one - 1, m << i, one | top} {
			wantZeros := 64
			if x != 0 {
				wantZeros = int(number(x).TrailingZeroBits())
			}
			if n := wide.Len(x); n != number(x).BitLen() {
				t.Errorf("Len(%d) = %d, want %d", x, n, number(x).BitLen())
			}
			if n := wide.Zeros(x); n != wantZeros {
				t.Errorf("Zeros(%d) = %d, want %d", x, n, wantZeros)
			}
		}
	}
}

// shifts are shifts of every size, with those that are held at 0 and at 128.
func shifts() []int {
	out := []int{math.MinInt, math.MinInt + 1, -129, -128, -65, -64, -63, -1, 129, 191, 192, 255, 256, 1 << 32, math.MaxInt - 1, math.MaxInt}
	for n := range 129 {
		out = append(out, n)
	}
	return out
}

// held is how far a shift by n goes.
func held(n int) uint {
	if n < 0 {
		return 0
	}
	if n > 128 {
		return 128
	}
	return uint(n)
}

// P1.7
func TestShlExamples(t *testing.T) {
	for _, c := range []struct {
		hi, lo uint64
		n      int
		a, b   uint64
	}{
		{0, 1, 64, 1, 0},
		{0, 1, 127, top, 0},
		{1, 1, 128, 0, 0},
		{m, m, 1000, 0, 0},
		{3, 4, -5, 3, 4},
		{3, 4, 0, 3, 4},
		{3, 4, math.MinInt, 3, 4},
		{3, 4, math.MaxInt, 0, 0},
		{m, m, 1, m, m - 1},
		{0, 3, 63, 1, top},
		{5, 6, 65, 12, 0},
	} {
		if a, b := wide.Shl(c.hi, c.lo, c.n); a != c.a || b != c.b {
			t.Errorf("Shl(%d, %d, %d) = %d, %d, want %d, %d", c.hi, c.lo, c.n, a, b, c.a, c.b)
		}
	}
}

// P1.7
func TestShlIsTheProduct(t *testing.T) {
	for _, n := range shifts() {
		for _, hi := range samples() {
			for _, lo := range samples() {
				want := cut(new(big.Int).Lsh(number(hi, lo), held(n)), 128)
				if a, b := wide.Shl(hi, lo, n); !same(want, a, b) {
					t.Fatalf("Shl(%d, %d, %d) = %d, %d, want %v", hi, lo, n, a, b, want)
				}
			}
		}
	}
}

// P1.8
func TestShrExamples(t *testing.T) {
	for _, c := range []struct {
		hi, lo uint64
		n      int
		a, b   uint64
		lost   bool
	}{
		{1, 0, 64, 0, 1, false},
		{1, 1, 1, 0, top, true},
		{3, 0, 65, 0, 1, true},
		{0, 8, 3, 0, 1, false},
		{1, 0, 128, 0, 0, true},
		{0, 0, 200, 0, 0, false},
		{5, 6, -1, 5, 6, false},
		{5, 7, 0, 5, 7, false},
		{5, 7, math.MinInt, 5, 7, false},
		{0, 1, math.MaxInt, 0, 0, true},
		{5, 6, 64, 0, 5, true},
		{5, 0, 64, 0, 5, false},
		{top, 0, 127, 0, 1, false},
		{top, 1, 127, 0, 1, true},
		{top + 1, 0, 127, 0, 1, true},
	} {
		if a, b, lost := wide.Shr(c.hi, c.lo, c.n); a != c.a || b != c.b || lost != c.lost {
			t.Errorf("Shr(%d, %d, %d) = %d, %d, %v, want %d, %d, %v", c.hi, c.lo, c.n, a, b, lost, c.a, c.b, c.lost)
		}
	}
}

// P1.8
func TestShrIsTheQuotient(t *testing.T) {
	for _, n := range shifts() {
		for _, hi := range samples() {
			for _, lo := range samples() {
				whole := number(hi, lo)
				want := new(big.Int).Rsh(whole, held(n))
				wantLost := cut(whole, held(n)).Sign() != 0
				if a, b, lost := wide.Shr(hi, lo, n); !same(want, a, b) || lost != wantLost {
					t.Fatalf("Shr(%d, %d, %d) = %d, %d, %v, want %v, %v", hi, lo, n, a, b, lost, want, wantLost)
				}
			}
		}
	}
}

// P1.9
func TestCmpExamples(t *testing.T) {
	for _, c := range []struct {
		ahi, alo, bhi, blo uint64
		want               int
	}{
		{0, m, 1, 0, -1},
		{2, 3, 2, 3, 0},
		{2, 4, 2, 3, 1},
		{2, 3, 2, 4, -1},
		{1, 0, 0, m, 1},
		{top, 0, top - 1, m, 1},
		{0, 0, 0, 0, 0},
		{m, m, m, m, 0},
	} {
		if n := wide.Cmp(c.ahi, c.alo, c.bhi, c.blo); n != c.want {
			t.Errorf("Cmp(%d, %d, %d, %d) = %d, want %d", c.ahi, c.alo, c.bhi, c.blo, n, c.want)
		}
	}
}

// P1.9
func TestCmpIsTheOrder(t *testing.T) {
	for _, ahi := range edges() {
		for _, alo := range edges() {
			for _, bhi := range edges() {
				for _, blo := range edges() {
					want := number(ahi, alo).Cmp(number(bhi, blo))
					if n := wide.Cmp(ahi, alo, bhi, blo); n != want {
						t.Fatalf("Cmp(%d, %d, %d, %d) = %d, want %d", ahi, alo, bhi, blo, n, want)
					}
				}
			}
		}
	}
}
