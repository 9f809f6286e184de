package pred_test

import (
	"math"
	"math/big"
	"slices"

	"plumb/api"
	"plumb/sample"
)

const minus = 1 << 63

// unfinished are patterns that are not finite.
var unfinished = []uint64{0x7ff0000000000000, 0xfff0000000000000, 0x7ff8000000000000, 0xfff8000000000000, 0x7ff0000000000001, 0x7fffffffffffffff, math.MaxUint64}

// telling are patterns at which a lost bit would show: both zeros, the least and the greatest, 1 and 2^1023 with their
// neighbours, and what an exponent lies apart.
var telling = []uint64{
	0, minus, 1, minus + 1, 2, 0x000fffffffffffff, 0x0010000000000000, 0x3ff0000000000000, 0xbff0000000000000, 0x3ff0000000000001, 0x3fefffffffffffff,
	0x4340000000000000, 0x4340000000000001, 0x7fe0000000000000, 0x7fe0000000000001, 0x7fdfffffffffffff, 0xffe0000000000000, 0x7fefffffffffffff, 0xffefffffffffffff,
}

// at gives a point by two floats.
func at(x, y float64) api.Point {
	return api.Point{X: math.Float64bits(x), Y: math.Float64bits(y)}
}

// number gives a finite pattern's number.
func number(b uint64) *big.Rat {
	return new(big.Rat).SetFloat64(math.Float64frombits(b))
}

// plain is a point by two rationals of the library.
type plain struct {
	x, y *big.Rat
}

// plainOf gives it.
func plainOf(p api.Point) plain {
	return plain{number(p.X), number(p.Y)}
}

// minusOf gives p less q.
func (p plain) minus(q plain) plain {
	return plain{new(big.Rat).Sub(p.x, q.x), new(big.Rat).Sub(p.y, q.y)}
}

// square gives x^2 + y^2.
func (p plain) square() *big.Rat {
	return new(big.Rat).Add(times(p.x, p.x), times(p.y, p.y))
}

// times gives the product of all.
func times(l ...*big.Rat) *big.Rat {
	out := big.NewRat(1, 1)
	for _, v := range l {
		out.Mul(out, v)
	}
	return out
}

// less gives a less b.
func less(a, b *big.Rat) *big.Rat {
	return new(big.Rat).Sub(a, b)
}

// plainArea2 is the formula of P22.1, as it stands there.
func plainArea2(a, b, c api.Point) *big.Rat {
	p, q, r := plainOf(a), plainOf(b), plainOf(c)
	return less(times(less(q.x, p.x), less(r.y, p.y)), times(less(q.y, p.y), less(r.x, p.x)))
}

// plainInCircle is the sign of the formula of P22.2, as it stands there.
func plainInCircle(a, b, c, d api.Point) int {
	o := plainOf(d)
	p, q, r := plainOf(a).minus(o), plainOf(b).minus(o), plainOf(c).minus(o)
	pw, qw, rw := p.square(), q.square(), r.square()
	first := times(p.x, less(times(q.y, rw), times(r.y, qw)))
	second := times(p.y, less(times(q.x, rw), times(r.x, qw)))
	third := times(pw, less(times(q.x, r.y), times(r.x, q.y)))
	return new(big.Rat).Add(less(first, second), third).Sign()
}

// plainBetween tells whether p lies in the box of a and b, and on their line.
func plainBetween(a, b, p api.Point) bool {
	within := func(v, w, u uint64) bool {
		lo, hi, m := number(v), number(w), number(u)
		if lo.Cmp(hi) > 0 {
			lo, hi = hi, lo
		}
		return lo.Cmp(m) <= 0 && m.Cmp(hi) <= 0
	}
	return within(a.X, b.X, p.X) && within(a.Y, b.Y, p.Y) && plainArea2(a, b, p).Sign() == 0
}

// plainNearer compares the squares of two distances.
func plainNearer(a, b, c, d api.Point) int {
	return plainOf(a).minus(plainOf(b)).square().Cmp(plainOf(c).minus(plainOf(d)).square())
}

// plainOrder compares floats, which do it as numbers.
func plainOrder(a, b api.Point) int {
	for _, pair := range [][2]uint64{{a.X, b.X}, {a.Y, b.Y}} {
		v, w := math.Float64frombits(pair[0]), math.Float64frombits(pair[1])
		if v < w {
			return -1
		}
		if v > w {
			return 1
		}
	}
	return 0
}

// plainHull is the hull by what a corner is: a place that lies on no stretch between two others and in no triangle of
// three others. From the least one on, each next corner has all others on its left.
func plainHull(l []api.Point) []api.Point {
	var places []api.Point
	for _, p := range l {
		if !slices.ContainsFunc(places, func(q api.Point) bool { return plainOrder(p, q) == 0 }) {
			places = append(places, p)
		}
	}
	var corners []api.Point
	for i, p := range places {
		if !covered(p, slices.Delete(slices.Clone(places), i, i+1)) {
			corners = append(corners, p)
		}
	}
	if len(corners) == 0 {
		return nil
	}
	least := slices.MinFunc(corners, plainOrder)
	rest := slices.DeleteFunc(slices.Clone(corners), func(p api.Point) bool { return p == least })
	slices.SortFunc(rest, func(p, q api.Point) int { return -plainArea2(least, p, q).Sign() })
	return append([]api.Point{least}, rest...)
}

// covered tells whether p lies on a stretch between two of these, or in a triangle of three.
func covered(p api.Point, others []api.Point) bool {
	for i, a := range others {
		for j, b := range others[:i] {
			if plainBetween(a, b, p) {
				return true
			}
			side := plainArea2(a, b, p).Sign()
			if side == 0 {
				continue
			}
			for _, c := range others[:j] {
				if plainArea2(b, c, p).Sign() == side && plainArea2(c, a, p).Sign() == side {
					return true
				}
			}
		}
	}
	return false
}

// isRat tells whether a Rat is that number, in lowest terms.
func isRat(r api.Rat, want *big.Rat) bool {
	size := new(big.Int).Abs(want.Num())
	return r.Neg == (want.Sign() < 0) && sample.Is(r.Num, size) && sample.Is(r.Den, want.Denom())
}

// somePattern gives a pattern of the row: small whole numbers, parts of them, telling ones, or any finite one.
func somePattern(rule *sample.Rule) uint64 {
	switch rule.Below(6) {
	case 0:
		return telling[rule.Below(len(telling))]
	case 1:
		if b := rule.Next(); b>>52&2047 != 2047 {
			return b
		}
	case 2:
		return math.Float64bits(float64(rule.Below(41)-20) / 10)
	}
	return math.Float64bits(float64(rule.Below(7) - 3))
}

// someRow gives so many points of the row, some of them at or next to a place that another one makes them likely to share
// a line, a circle or a distance with.
func someRow(rule *sample.Rule, n int) []api.Point {
	var out []api.Point
	for i := range n {
		p := api.Point{X: somePattern(rule), Y: somePattern(rule)}
		if i > 0 && rule.Below(3) == 0 {
			p = akin(rule, out[rule.Below(i)], out[rule.Below(i)])
		}
		out = append(out, p)
	}
	return out
}

// akin gives a point that is made of two others.
func akin(rule *sample.Rule, p, q api.Point) api.Point {
	switch rule.Below(6) {
	case 0:
		return api.Point{X: p.X, Y: q.Y}
	case 1:
		return api.Point{X: p.Y, Y: p.X}
	case 2:
		return api.Point{X: p.X ^ minus, Y: p.Y}
	case 3: // one step aside, where that is finite
		if b := p.X + 1; b>>52&2047 != 2047 {
			return api.Point{X: b, Y: p.Y}
		}
	case 4:
		return at(half(p.X, q.X), half(p.Y, q.Y))
	}
	return p
}

// half gives about the middle of two numbers.
func half(a, b uint64) float64 {
	return math.Float64frombits(a)/2 + math.Float64frombits(b)/2
}
