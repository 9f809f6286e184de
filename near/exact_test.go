package near_test

import (
	"math"
	"math/big"
	"testing"

	"plumb/api"
	"plumb/near"
	"plumb/sample"
)

// finite are patterns of both signs: the edges of all reaches, and any from a fixed rule.
func finite() []uint64 {
	sizes := []uint64{
		0, 1, 2, 3, 4, 1 << 51, 0x000ffffffffffffe, 0x000fffffffffffff,
		0x0010000000000000, 0x0010000000000001, 0x001fffffffffffff, 0x0020000000000000, 0x0020000000000001,
		one - 1, one, one + 1, 0x3ff8000000000000, 0x4000000000000000, 0x4330000000000000, 0x4340000000000000, 0x4340000000000001,
		0x7fe0000000000000, greatest - 1, greatest,
	}
	rule := sample.Rule(74)
	for range 100 {
		sizes = append(sizes, rule.Next()%infinite, rule.Next()>>12, rule.Next()>>1%infinite&^(1<<40-1))
	}
	out := sizes
	for _, b := range sizes {
		out = append(out, b|minus)
	}
	return out
}

// strange are patterns that have no number.
var strange = []uint64{infinite, infinite | minus, infinite + 1, 0x7ff8000000000000, 0xfff8000000000000, 0x7fffffffffffffff, math.MaxUint64}

// P7.4: the chapter's example 7, and the number of every pattern.
func TestValue(t *testing.T) {
	for b, want := range map[uint64]*big.Rat{
		0x3ff8000000000000: big.NewRat(3, 2),
		1:                  twoBy(big.NewInt(1), -1074),
		minus:              new(big.Rat),
		0:                  new(big.Rat),
		greatest:           new(big.Rat).SetInt(new(big.Int).Sub(two(1024), two(971))),
	} {
		if r, e := near.Value(b); e != api.OK || !same(r, of(want)) {
			t.Errorf("Value(%x) = %v, %d", b, r, e)
		}
	}
	for _, b := range finite() {
		if r, e := near.Value(b); e != api.OK || !same(r, of(value(b))) {
			t.Errorf("Value(%x) = %v, %d", b, r, e)
		}
	}
	for _, b := range strange {
		if r, e := near.Value(b); e != api.ErrFinite || !same(r, api.Rat{}) {
			t.Errorf("Value(%x) = %v, %d", b, r, e)
		}
	}
}

// middle is the number in the middle between a pattern's and the next greater one's, by floats.
func middle(b uint64) *big.Rat {
	f := math.Float64frombits(b)
	next := new(big.Rat).SetFloat64(math.Nextafter(f, math.Inf(1)))
	return next.Add(next, value(b)).Mul(next, big.NewRat(1, 2))
}

// P7.5: the chapter's example 8, and the middle above every pattern.
func TestMid(t *testing.T) {
	half := twoBy(big.NewInt(1), -1075)
	for b, want := range map[uint64]*big.Rat{
		one:                new(big.Rat).Add(big.NewRat(1, 1), twoBy(big.NewInt(1), -53)),
		0:                  half,
		minus:              half,
		one | minus:        new(big.Rat).Add(big.NewRat(-1, 1), twoBy(big.NewInt(1), -54)),
		minus | 1:          new(big.Rat).Neg(half),
		greatest | minus:   new(big.Rat).Sub(twoBy(big.NewInt(1), 970), new(big.Rat).SetInt(new(big.Int).Sub(two(1024), two(971)))),
		0x000fffffffffffff: twoBy(plus(two(53), -1), -1075),
	} {
		if r, e := near.Mid(b); e != api.OK || !same(r, of(want)) {
			t.Errorf("Mid(%x) = %v, %d, want %v", b, r, e, want)
		}
	}
	for _, b := range finite() {
		if b == greatest {
			continue
		}
		if r, e := near.Mid(b); e != api.OK || !same(r, of(middle(b))) {
			t.Errorf("Mid(%x) = %v, %d", b, r, e)
		}
	}
	if r, e := near.Mid(greatest); e != api.ErrLast || !same(r, api.Rat{}) {
		t.Errorf("Mid of the greatest = %v, %d", r, e)
	}
	for _, b := range strange {
		if r, e := near.Mid(b); e != api.ErrFinite || !same(r, api.Rat{}) {
			t.Errorf("Mid(%x) = %v, %d", b, r, e)
		}
	}
}

// P7.6: the chapter's example 9, and numbers beside which a pattern stands.
func TestExact(t *testing.T) {
	for _, c := range []struct {
		q    *big.Rat
		want uint64
		ok   bool
	}{
		{big.NewRat(3, 2), 0x3ff8000000000000, true},
		{big.NewRat(-3, 2), 0xbff8000000000000, true},
		{big.NewRat(1, 10), 0, false},
		{big.NewRat(1, 3), 0, false},
		{big.NewRat(2, 3), 0, false},
		{new(big.Rat), 0, true},
		{twoBy(big.NewInt(1), 1024), 0, false},
		{twoBy(big.NewInt(-1), 1024), 0, false},
		{twoBy(big.NewInt(1), 1023), 0x7fe0000000000000, true},
		{twoBy(big.NewInt(1), -1074), 1, true},
		{twoBy(big.NewInt(-1), -1074), minus | 1, true},
		{twoBy(big.NewInt(1), -1075), 0, false},
		{twoBy(big.NewInt(-1), -1075), 0, false},
		{twoBy(big.NewInt(3), -1075), 0, false},
		{twoBy(plus(two(53), -1), 971), greatest, true},
		{twoBy(plus(two(54), -1), 970), 0, false},
		{twoBy(plus(two(53), 1), 0), 0, false},
		{twoBy(plus(two(64), 1), 0), 0, false},
		{twoBy(plus(two(64), 2), 0), 0, false},
		{twoBy(big.NewInt(1), 250000), 0, false},
		{twoBy(big.NewInt(1), -250000), 0, false},
		{new(big.Rat).SetFrac(big.NewInt(1), plus(two(64), 2)), 0, false},
	} {
		if b, ok := near.Exact(of(c.q)); b != c.want || ok != c.ok {
			t.Errorf("Exact(%v) = %x, %v", c.q, b, ok)
		}
	}
	for _, r := range wrongs() {
		if b, ok := near.Exact(r); b != 0 || ok {
			t.Errorf("Exact(%v) = %x, %v", r, b, ok)
		}
	}
}

// P7.6, P7.4, P7.5: each pattern's number is exact (-0's is 0), no middle is.
func TestExactOfValue(t *testing.T) {
	for _, b := range finite() {
		r, _ := near.Value(b)
		want := b
		if b == minus {
			want = 0
		}
		if got, ok := near.Exact(r); got != want || !ok {
			t.Errorf("Exact(Value(%x)) = %x, %v", b, got, ok)
		}
		mid, e := near.Mid(b)
		if got, ok := near.Exact(mid); e == api.OK && (got != 0 || ok) {
			t.Errorf("Exact(Mid(%x)) = %x, %v", b, got, ok)
		}
	}
}
