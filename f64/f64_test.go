package f64_test

import (
	"math"
	"math/big"
	"testing"

	"plumb/api"
	"plumb/f64"
	"plumb/sample"
)

const (
	minusZero = 0x8000000000000000
	infinite  = 0x7ff0000000000000
	quiet     = 0x7ff8000000000000
	greatest  = 0x7fefffffffffffff
	least     = 0xffefffffffffffff
	one       = 0x3ff0000000000000
	lastRank  = 9218868437227405311
)

// sizes are patterns without a sign: the edges of all classes, and any from a fixed rule.
func sizes() []uint64 {
	out := []uint64{
		0, 1, 2, 3, 1 << 51, 0x000ffffffffffffe, 0x000fffffffffffff,
		0x0010000000000000, 0x0010000000000001, 0x001fffffffffffff, 0x0020000000000000,
		one - 1, one, one + 1, 0x3ff8000000000000, 0x4000000000000000, 0x4330000000000000, 0x4340000000000001,
		0x7fe0000000000000, greatest - 1, greatest,
		infinite, infinite + 1, quiet, 0x7fffffffffffffff,
	}
	rule := sample.Rule(6)
	for range 300 {
		out = append(out, rule.Next()>>1, rule.Next()>>12)
	}
	return out
}

// patterns are the sizes with either sign.
func patterns() []uint64 {
	out := sizes()
	for _, b := range sizes() {
		out = append(out, b|minusZero)
	}
	return out
}

// finite are those of the patterns that have a number.
func finite() []uint64 {
	var out []uint64
	for _, b := range patterns() {
		if f := math.Float64frombits(b); !math.IsInf(f, 0) && !math.IsNaN(f) {
			out = append(out, b)
		}
	}
	return out
}

// strange are those of the patterns that have none.
func strange() []uint64 {
	var out []uint64
	for _, b := range patterns() {
		if f := math.Float64frombits(b); math.IsInf(f, 0) || math.IsNaN(f) {
			out = append(out, b)
		}
	}
	return out
}

// class tells a pattern's class by its float.
func class(b uint64) int {
	f := math.Abs(math.Float64frombits(b))
	switch {
	case f == 0:
		return 0
	case math.IsNaN(f):
		return 4
	case f > math.MaxFloat64:
		return 3
	case f < 0x1p-1022:
		return 1
	}
	return 2
}

// P6.1: the examples, and every pattern as its float is.
func TestClass(t *testing.T) {
	for b, want := range map[uint64]int{
		0: 0, minusZero: 0, 1: 1, 0x800fffffffffffff: 1, 0x0010000000000000: 2, least: 2, greatest: 2,
		infinite: 3, 0xfff0000000000000: 3, infinite + 1: 4, quiet: 4, math.MaxUint64: 4,
	} {
		if got := f64.Class(b); got != want {
			t.Errorf("Class(%x) = %d, want %d", b, got, want)
		}
	}
	for _, b := range patterns() {
		if got, want := f64.Class(b), class(b); got != want {
			t.Errorf("Class(%x) = %d, want %d", b, got, want)
		}
	}
}

// P6.1: Neg turns the sign bit and no other, of every class.
func TestNeg(t *testing.T) {
	for _, b := range sizes() {
		if got := f64.Neg(b); got != b+minusZero {
			t.Errorf("Neg(%x) = %x", b, got)
		}
		if got := f64.Neg(b + minusZero); got != b {
			t.Errorf("Neg(%x) = %x", b+minusZero, got)
		}
	}
}

// P6.2: the examples.
func TestSplitExamples(t *testing.T) {
	for _, c := range []struct {
		b    uint64
		neg  bool
		mant uint64
		exp  int
	}{
		{one, false, 4503599627370496, -52},
		{0xbff8000000000000, true, 6755399441055744, -52},
		{1, false, 1, -1074},
		{0x000fffffffffffff, false, 4503599627370495, -1074},
		{0x0010000000000000, false, 4503599627370496, -1074},
		{0x0020000000000000, false, 4503599627370496, -1073},
		{0, false, 0, -1074},
		{minusZero, true, 0, -1074},
		{greatest, false, 9007199254740991, 971},
		{least, true, 9007199254740991, 971},
	} {
		neg, mant, exp, e := f64.Split(c.b)
		if neg != c.neg || mant != c.mant || exp != c.exp || e != api.OK {
			t.Errorf("Split(%x) = %v, %d, %d, %d, want %v, %d, %d", c.b, neg, mant, exp, e, c.neg, c.mant, c.exp)
		}
	}
}

// P6.2: the three parts make up the number, the mantissa of a normal pattern has 53 bits and of any other the least
// exponent.
func TestSplitIsTheNumber(t *testing.T) {
	for _, b := range finite() {
		neg, mant, exp, e := f64.Split(b)
		f := math.Float64frombits(b)
		if e != api.OK || neg != math.Signbit(f) || !sameNumber(mant, exp, math.Abs(f)) {
			t.Errorf("Split(%x) = %v, %d, %d, %d", b, neg, mant, exp, e)
		}
		if normal := mant>>52 == 1; normal != (class(b) == 2) || (!normal && exp != -1074) {
			t.Errorf("Split(%x) has the mantissa %d and the exponent %d", b, mant, exp)
		}
	}
}

// sameNumber tells whether mant times two to the exp is just f.
func sameNumber(mant uint64, exp int, f float64) bool {
	number := new(big.Float).SetPrec(64).SetUint64(mant)
	return number.SetMantExp(number, exp).Cmp(big.NewFloat(f)) == 0
}

// P6.2, P6.4, P6.5, P6.6: a pattern that isn't finite is refused, with no other result.
func TestNotFinite(t *testing.T) {
	for _, b := range strange() {
		if neg, mant, exp, e := f64.Split(b); neg || mant != 0 || exp != 0 || e != api.ErrFinite {
			t.Errorf("Split(%x) = %v, %d, %d, %d", b, neg, mant, exp, e)
		}
		if next, e := f64.Next(b); next != 0 || e != api.ErrFinite {
			t.Errorf("Next(%x) = %x, %d", b, next, e)
		}
		if prev, e := f64.Prev(b); prev != 0 || e != api.ErrFinite {
			t.Errorf("Prev(%x) = %x, %d", b, prev, e)
		}
		if rank, e := f64.Rank(b); rank != 0 || e != api.ErrFinite {
			t.Errorf("Rank(%x) = %d, %d", b, rank, e)
		}
		for _, a := range []uint64{0, minusZero, one, least, greatest, infinite, quiet, b} {
			if order, e := f64.Cmp(a, b); order != 0 || e != api.ErrFinite {
				t.Errorf("Cmp(%x, %x) = %d, %d", a, b, order, e)
			}
			if order, e := f64.Cmp(b, a); order != 0 || e != api.ErrFinite {
				t.Errorf("Cmp(%x, %x) = %d, %d", b, a, order, e)
			}
		}
	}
}

// P6.4: the examples, and the edges of the classes.
func TestNeighbourExamples(t *testing.T) {
	for _, c := range []struct{ b, next uint64 }{
		{one, one + 1},
		{0xbff0000000000000, 0xbfefffffffffffff},
		{0x000fffffffffffff, 0x0010000000000000},
		{0x8010000000000000, 0x800fffffffffffff},
		{0x8000000000000001, minusZero},
		{0, 1},
		{minusZero, 1},
		{greatest - 1, greatest},
		{least, 0xffeffffffffffffe},
	} {
		if next, e := f64.Next(c.b); next != c.next || e != api.OK {
			t.Errorf("Next(%x) = %x, %d, want %x", c.b, next, e, c.next)
		}
	}
	for _, c := range []struct{ b, prev uint64 }{
		{one + 1, one},
		{one, one - 1},
		{0x0010000000000000, 0x000fffffffffffff},
		{0, 0x8000000000000001},
		{minusZero, 0x8000000000000001},
		{1, 0},
		{greatest, greatest - 1},
		{least - 1, least},
	} {
		if prev, e := f64.Prev(c.b); prev != c.prev || e != api.OK {
			t.Errorf("Prev(%x) = %x, %d, want %x", c.b, prev, e, c.prev)
		}
	}
}

// P6.4: behind the greatest and ahead of the least there is none.
func TestNoNeighbour(t *testing.T) {
	if next, e := f64.Next(greatest); next != 0 || e != api.ErrLast {
		t.Errorf("Next of the greatest = %x, %d", next, e)
	}
	if prev, e := f64.Prev(least); prev != 0 || e != api.ErrLast {
		t.Errorf("Prev of the least = %x, %d", prev, e)
	}
}

// P6.4: the neighbours are those of the floats, but that -0 is the one above the greatest below 0.
func TestNeighboursOfFloats(t *testing.T) {
	for _, b := range finite() {
		if b != greatest {
			want := math.Float64bits(math.Nextafter(math.Float64frombits(b), math.Inf(1)))
			if next, e := f64.Next(b); next != want || e != api.OK {
				t.Errorf("Next(%x) = %x, %d, want %x", b, next, e, want)
			}
		}
		if b != least {
			want := math.Float64bits(math.Nextafter(math.Float64frombits(b), math.Inf(-1)))
			if prev, e := f64.Prev(b); prev != want || e != api.OK {
				t.Errorf("Prev(%x) = %x, %d, want %x", b, prev, e, want)
			}
		}
	}
}

// P6.5: the examples.
func TestCmpExamples(t *testing.T) {
	for _, c := range []struct {
		a, b uint64
		want int
	}{
		{0, minusZero, 0}, {minusZero, 0, 0}, {minusZero, minusZero, 0}, {1, 0, 1}, {1, minusZero, 1},
		{0x8000000000000001, minusZero, -1}, {0x8000000000000001, 0, -1},
		{0xbff0000000000000, 0xc000000000000000, 1}, {least, greatest, -1}, {greatest, greatest, 0},
	} {
		if got, e := f64.Cmp(c.a, c.b); got != c.want || e != api.OK {
			t.Errorf("Cmp(%x, %x) = %d, %d, want %d", c.a, c.b, got, e, c.want)
		}
	}
}

// P6.5: the order is that of the floats.
func TestCmpOfFloats(t *testing.T) {
	for i, a := range finite() {
		for _, b := range finite()[i%7:] {
			x, y, want := math.Float64frombits(a), math.Float64frombits(b), 0
			if x < y {
				want = -1
			} else if x > y {
				want = 1
			}
			if got, e := f64.Cmp(a, b); got != want || e != api.OK {
				t.Fatalf("Cmp(%x, %x) = %d, %d, want %d", a, b, got, e, want)
			}
		}
	}
}

// P6.6: the examples.
func TestRankExamples(t *testing.T) {
	for b, want := range map[uint64]int64{
		0: 0, minusZero: 0, 1: 1, 0x8000000000000001: -1, one: 4607182418800017408, one + minusZero: -4607182418800017408,
		greatest: lastRank, least: -lastRank,
	} {
		if rank, e := f64.Rank(b); rank != want || e != api.OK {
			t.Errorf("Rank(%x) = %d, %d, want %d", b, rank, e, want)
		}
	}
}

// P6.6: the examples, and the ranks at which there is no pattern.
func TestAtExamples(t *testing.T) {
	for rank, want := range map[int64]uint64{
		0: 0, 1: 1, -1: 0x8000000000000001, 4607182418800017408: one, lastRank: greatest, -lastRank: least,
	} {
		if b, e := f64.At(rank); b != want || e != api.OK {
			t.Errorf("At(%d) = %x, %d, want %x", rank, b, e, want)
		}
	}
	for _, rank := range []int64{lastRank + 1, -lastRank - 1, math.MinInt64, math.MinInt64 + 1, math.MaxInt64} {
		if b, e := f64.At(rank); b != 0 || e != api.ErrLast {
			t.Errorf("At(%d) = %x, %d, want ErrLast", rank, b, e)
		}
	}
}
