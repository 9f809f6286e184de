package sample

import (
	"math"
	"math/big"
	"slices"

	"plumb/api"
)

// Spot is the place of two numbers.
func Spot(x float64, y float64) api.Point {
	return api.Point{X: math.Float64bits(x), Y: math.Float64bits(y)}
}

// Spots gives points by their numbers, X and Y by turns.
func Spots(l ...float64) []api.Point {
	var out []api.Point
	for i := 1; i < len(l); i += 2 {
		out = append(out, Spot(l[i-1], l[i]))
	}
	return out
}

// Unfinished are patterns that are not finite.
func Unfinished() []uint64 {
	return []uint64{0x7ff0000000000000, 0xfff0000000000000, 0x7ff8000000000000, 0xfff8000000000000, 0x7ff0000000000001, 0x7fffffffffffffff, math.MaxUint64}
}

// telling are patterns at which a lost bit would show: both zeros, the least and the greatest, 1 and 2^1023 with their
// neighbours, and what an exponent lies apart.
func telling() []uint64 {
	const minus = 1 << 63
	return []uint64{
		0, minus, 1, minus + 1, 2, 0x000fffffffffffff, 0x0010000000000000, 0x3ff0000000000000, 0xbff0000000000000, 0x3ff0000000000001, 0x3fefffffffffffff,
		0x4340000000000000, 0x4340000000000001, 0x7fe0000000000000, 0x7fe0000000000001, 0x7fdfffffffffffff, 0xffe0000000000000, 0x7fefffffffffffff, 0xffefffffffffffff,
	}
}

// Pattern gives a finite pattern of the row: small whole numbers, parts of them, telling ones, or any.
func (r *Rule) Pattern() uint64 {
	switch r.Below(6) {
	case 0:
		l := telling()
		return l[r.Below(len(l))]
	case 1:
		if b := r.Next(); b>>52&2047 != 2047 {
			return b
		}
	case 2:
		return math.Float64bits(float64(r.Below(41)-20) / 10)
	}
	return math.Float64bits(float64(r.Below(7) - 3))
}

// Row gives so many points of the row, some of them at or next to a place that another one makes them likely to share a
// line, a circle or a distance with.
func (r *Rule) Row(n int) []api.Point {
	var out []api.Point
	for i := range n {
		p := api.Point{X: r.Pattern(), Y: r.Pattern()}
		if i > 0 && r.Below(3) == 0 {
			p = r.akin(out[r.Below(i)], out[r.Below(i)])
		}
		out = append(out, p)
	}
	return out
}

// Crowd gives so many points of the row: of a small grid, many of which are on one line, or of all sorts.
func (r *Rule) Crowd(n int) []api.Point {
	if r.Below(3) == 0 {
		return r.Row(n)
	}
	units := []float64{1, 0.75, 0x1p-1074, 0x1.8p1018, -0x1p-600}
	size, slope := 2+r.Below(4), r.Below(3)
	x, y := units[r.Below(len(units))], units[r.Below(len(units))]
	level := r.Below(3) == 0
	var out []api.Point
	for range n {
		i, j := r.Below(size), r.Below(size)
		if level {
			j = i
		}
		// No number is rounded here.
		out = append(out, Spot(float64(i+slope*j-1)*x, float64(j-1)*y))
	}
	return out
}

// akin gives a point that is made of two others.
func (r *Rule) akin(p api.Point, q api.Point) api.Point {
	switch r.Below(6) {
	case 0:
		return api.Point{X: p.X, Y: q.Y}
	case 1:
		return api.Point{X: p.Y, Y: p.X}
	case 2:
		return api.Point{X: p.X ^ 1<<63, Y: p.Y}
	case 3: // one step aside, where that is finite
		if b := p.X + 1; b>>52&2047 != 2047 {
			return api.Point{X: b, Y: p.Y}
		}
	case 4:
		return Spot(half(p.X, q.X), half(p.Y, q.Y))
	}
	return p
}

// half gives about the middle of two numbers.
func half(a uint64, b uint64) float64 {
	return math.Float64frombits(a)/2 + math.Float64frombits(b)/2
}

// OtherZeros gives points at the same places, each 0 and -0 in them the one or the other as the row says.
func (r *Rule) OtherZeros(l []api.Point) []api.Point {
	out := slices.Clone(l)
	for i := range out {
		for _, b := range []*uint64{&out[i].X, &out[i].Y} {
			if *b<<1 == 0 && r.Below(2) == 0 {
				*b ^= 1 << 63
			}
		}
	}
	return out
}

// Value is a finite pattern's number.
func Value(b uint64) *big.Rat {
	return new(big.Rat).SetFloat64(math.Float64frombits(b))
}

// IsRat tells whether a Rat is that number, in lowest terms.
func IsRat(r api.Rat, want *big.Rat) bool {
	size := new(big.Int).Abs(want.Num())
	return r.Neg == (want.Sign() < 0) && Is(r.Num, size) && Is(r.Den, want.Denom())
}

// Ratio is a Rat's number.
func Ratio(r api.Rat) *big.Rat {
	out := new(big.Rat).SetFrac(Number(r.Num), Number(r.Den))
	if r.Neg {
		out.Neg(out)
	}
	return out
}

// TwoTo is two to the n as a Rat's text.
func TwoTo(n int) string {
	if n < 0 {
		return "1/" + TwoTo(-n)
	}
	return new(big.Int).Lsh(big.NewInt(1), uint(n)).String()
}

// Exact is a place, or the way from one to another, by two rationals of the library.
type Exact struct {
	X, Y *big.Rat
}

// ExactOf gives a point's.
func ExactOf(p api.Point) Exact {
	return Exact{Value(p.X), Value(p.Y)}
}

// Less gives p less q.
func (p Exact) Less(q Exact) Exact {
	return Exact{new(big.Rat).Sub(p.X, q.X), new(big.Rat).Sub(p.Y, q.Y)}
}

// Plus gives p and so many times q.
func (p Exact) Plus(times *big.Rat, q Exact) Exact {
	x, y := new(big.Rat).Mul(times, q.X), new(big.Rat).Mul(times, q.Y)
	return Exact{x.Add(x, p.X), y.Add(y, p.Y)}
}

// Dot gives the product of two ways, as far as they go the same way.
func (p Exact) Dot(q Exact) *big.Rat {
	x, y := new(big.Rat).Mul(p.X, q.X), new(big.Rat).Mul(p.Y, q.Y)
	return x.Add(x, y)
}

// Cross gives twice the area between two ways, above 0 if the second goes to the left of the first.
func (p Exact) Cross(q Exact) *big.Rat {
	x, y := new(big.Rat).Mul(p.X, q.Y), new(big.Rat).Mul(p.Y, q.X)
	return x.Sub(x, y)
}

// Cmp compares by X, then Y.
func (p Exact) Cmp(q Exact) int {
	if n := p.X.Cmp(q.X); n != 0 {
		return n
	}
	return p.Y.Cmp(q.Y)
}

// Rounded gives a place as a point, each number rounded once by the library.
func (p Exact) Rounded() api.Point {
	x, _ := p.X.Float64()
	y, _ := p.Y.Float64()
	return Spot(x, y)
}
