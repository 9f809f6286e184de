package order_test

import (
	"cmp"
	"math"
	"testing"

	"plumb/api"
	"plumb/order"
	"plumb/sample"
)

// The order of patterns (doc/24-ring.md, Words), rising: whatever the patterns are.
func rising() []uint64 {
	const minus = 1 << 63
	return []uint64{
		math.MaxUint64, 0xfff8000000000000, 0xfff0000000000000, 0xffefffffffffffff, 0xbff0000000000001, 0xbff0000000000000, 0x8010000000000000, minus + 2, minus + 1, minus,
		0, 1, 2, 0x0010000000000000, 0x3ff0000000000000, 0x3ff0000000000001, 0x7fefffffffffffff, 0x7ff0000000000000, 0x7ff8000000000000, math.MaxInt64,
	}
}

func TestPointsOfAllSorts(t *testing.T) {
	l := rising()
	for i := range l {
		for j := range l {
			for k := range l {
				p, q := api.Point{X: l[i], Y: l[k]}, api.Point{X: l[j], Y: l[k]}
				if n := order.Points(p, q); n != cmp.Compare(i, j) {
					t.Errorf("Points(%x, %x) = %d by X", p, q, n)
				}
				p, q = api.Point{X: l[k], Y: l[i]}, api.Point{X: l[k], Y: l[j]}
				if n := order.Points(p, q); n != cmp.Compare(i, j) {
					t.Errorf("Points(%x, %x) = %d by Y", p, q, n)
				}
				p, q = api.Point{X: l[i], Y: l[k]}, api.Point{X: l[j], Y: l[i]}
				if n := order.Points(p, q); i != j && n != cmp.Compare(i, j) {
					t.Errorf("Points(%x, %x) = %d, whatever Y is", p, q, n)
				}
			}
		}
	}
}

// Of finite patterns it is the order of their numbers, but that -0 is ahead of 0.
func TestPointsGoByTheirNumbers(t *testing.T) {
	rule := sample.Rule(26)
	for range 20000 {
		a, b := rule.Pattern(), rule.Pattern()
		want := cmp.Or(cmp.Compare(math.Float64frombits(a), math.Float64frombits(b)), cmp.Compare(b>>63, a>>63))
		if n := order.Points(api.Point{X: a, Y: 1}, api.Point{X: b, Y: 1}); n != want {
			t.Errorf("Points by %x and %x: %d, want %d", a, b, n, want)
		}
	}
}
