package pred_test

import (
	"math"
	"math/big"
	"slices"

	"plumb/api"
	"plumb/sample"
)

// at gives a point by two floats.
func at(x, y float64) api.Point {
	return sample.Spot(x, y)
}

// times gives the product of all.
func times(l ...*big.Rat) *big.Rat {
	out := big.NewRat(1, 1)
	for _, v := range l {
		out.Mul(out, v)
	}
	return out
}

// less gives a less b.
func less(a, b *big.Rat) *big.Rat {
	return new(big.Rat).Sub(a, b)
}

// plainArea2 is the formula of P22.1, as it stands there.
func plainArea2(a, b, c api.Point) *big.Rat {
	p, q, r := sample.ExactOf(a), sample.ExactOf(b), sample.ExactOf(c)
	return less(times(less(q.X, p.X), less(r.Y, p.Y)), times(less(q.Y, p.Y), less(r.X, p.X)))
}

// plainInCircle is the sign of the formula of P22.2, as it stands there.
func plainInCircle(a, b, c, d api.Point) int {
	o := sample.ExactOf(d)
	p, q, r := sample.ExactOf(a).Less(o), sample.ExactOf(b).Less(o), sample.ExactOf(c).Less(o)
	pw, qw, rw := p.Dot(p), q.Dot(q), r.Dot(r)
	first := times(p.X, less(times(q.Y, rw), times(r.Y, qw)))
	second := times(p.Y, less(times(q.X, rw), times(r.X, qw)))
	third := times(pw, less(times(q.X, r.Y), times(r.X, q.Y)))
	return new(big.Rat).Add(less(first, second), third).Sign()
}

// plainBetween tells whether p lies in the box of a and b, and on their line.
func plainBetween(a, b, p api.Point) bool {
	within := func(v, w, u uint64) bool {
		lo, hi, m := sample.Value(v), sample.Value(w), sample.Value(u)
		if lo.Cmp(hi) > 0 {
			lo, hi = hi, lo
		}
		return lo.Cmp(m) <= 0 && m.Cmp(hi) <= 0
	}
	return within(a.X, b.X, p.X) && within(a.Y, b.Y, p.Y) && plainArea2(a, b, p).Sign() == 0
}

// plainNearer compares the squares of two distances.
func plainNearer(a, b, c, d api.Point) int {
	v, w := sample.ExactOf(a).Less(sample.ExactOf(b)), sample.ExactOf(c).Less(sample.ExactOf(d))
	return v.Dot(v).Cmp(w.Dot(w))
}

// plainOrder compares floats, which do it as numbers.
func plainOrder(a, b api.Point) int {
	for _, pair := range [][2]uint64{{a.X, b.X}, {a.Y, b.Y}} {
		v, w := math.Float64frombits(pair[0]), math.Float64frombits(pair[1])
		if v < w {
			return -1
		}
		if v > w {
			return 1
		}
	}
	return 0
}

// plainHull is the hull by what a corner is: a place that lies on no stretch between two others and in no triangle of
// three others. From the least one on, each next corner has all others on its left.
func plainHull(l []api.Point) []api.Point {
	var places []api.Point
	for _, p := range l {
		if !slices.ContainsFunc(places, func(q api.Point) bool { return plainOrder(p, q) == 0 }) {
			places = append(places, p)
		}
	}
	var corners []api.Point
	for i, p := range places {
		if !covered(p, slices.Delete(slices.Clone(places), i, i+1)) {
			corners = append(corners, p)
		}
	}
	if len(corners) == 0 {
		return nil
	}
	least := slices.MinFunc(corners, plainOrder)
	rest := slices.DeleteFunc(slices.Clone(corners), func(p api.Point) bool { return p == least })
	slices.SortFunc(rest, func(p, q api.Point) int { return -plainArea2(least, p, q).Sign() })
	return append([]api.Point{least}, rest...)
}

// covered tells whether p lies on a stretch between two of these, or in a triangle of three.
func covered(p api.Point, others []api.Point) bool {
	for i, a := range others {
		for j, b := range others[:i] {
			if plainBetween(a, b, p) {
				return true
			}
			side := plainArea2(a, b, p).Sign()
			if side == 0 {
				continue
			}
			for _, c := range others[:j] {
				if plainArea2(b, c, p).Sign() == side && plainArea2(c, a, p).Sign() == side {
					return true
				}
			}
		}
	}
	return false
}
