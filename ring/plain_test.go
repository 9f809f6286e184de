package ring_test

import (
	"cmp"
	"math"
	"math/big"
	"slices"

	"plumb/api"
	"plumb/sample"
)

const (
	great = 0x1p1023
	least = 0x1p-1074
	most  = math.MaxFloat64
)

var zero = math.Copysign(0, -1) // -0

// at gives a point by two floats.
func at(x, y float64) api.Point {
	return sample.Spot(x, y)
}

// row gives points by floats, two a point.
func row(l ...float64) []api.Point {
	return sample.Spots(l...)
}

// loop gives a ring of the row of so many points, or of nearly twice as many where it is gone round twice; the last one may
// have other zeros than the first.
func loop(rule *sample.Rule, n int) []api.Point {
	if n == 1 {
		return rule.Crowd(1)
	}
	l := rule.Crowd(n - 1)
	if rule.Below(4) == 0 {
		l = slices.Concat(l, rule.OtherZeros(l))
	}
	return append(l, rule.OtherZeros(l[:1])...)
}

// near gives a place of the row that is on the ring, or next to it, or between places of it, more often than not.
func near(rule *sample.Rule, r []api.Point) api.Point {
	pick := func() api.Point { return r[rule.Below(len(r))] }
	half := func(p, q api.Point) api.Point {
		a := sample.ExactOf(p)
		return a.Plus(big.NewRat(1, 2), sample.ExactOf(q).Less(a)).Rounded()
	}
	i := rule.Below(len(r))
	switch rule.Below(12) {
	case 0:
		return rule.OtherZeros(r[i : i+1])[0]
	case 1:
		return half(r[i], r[(i+1)%len(r)])
	case 2:
		return api.Point{X: half(pick(), pick()).X, Y: pick().Y}
	case 3:
		return api.Point{X: pick().X, Y: half(pick(), pick()).Y}
	case 4:
		return rule.Crowd(1)[0]
	}
	return half(half(pick(), pick()), half(pick(), pick()))
}

// back gives points the other way about.
func back(l []api.Point) []api.Point {
	out := slices.Clone(l)
	slices.Reverse(out)
	return out
}

// begun gives a ring begun at another of its points; its last point has the first one's patterns then.
func begun(r []api.Point, i int) []api.Point {
	if len(r) == 1 {
		return r
	}
	there := r[:len(r)-1]
	return slices.Concat(there[i:], there[:i], there[i:i+1])
}

// fan gives the triangles from a ring's first place to each of its edges: two ways from there.
func fan(r []api.Point) [][2]sample.Exact {
	var out [][2]sample.Exact
	first := sample.ExactOf(r[0])
	for i := 1; i < len(r); i++ {
		out = append(out, [2]sample.Exact{sample.ExactOf(r[i-1]).Less(first), sample.ExactOf(r[i]).Less(first)})
	}
	return out
}

// plainArea is twice the area, by triangles.
func plainArea(r []api.Point) *big.Rat {
	sum := new(big.Rat)
	for _, t := range fan(r) {
		sum.Add(sum, t[0].Cross(t[1]))
	}
	return sum
}

// plainBox is P24.4 as its words say.
func plainBox(l []api.Point) (api.Point, api.Point) {
	x := func(p api.Point) uint64 { return p.X }
	y := func(p api.Point) uint64 { return p.Y }
	first := func(of func(api.Point) uint64, sign int) uint64 {
		for _, p := range l {
			beyond := func(q api.Point) bool { return sample.Value(of(q)).Cmp(sample.Value(of(p))) == sign }
			if !slices.ContainsFunc(l, beyond) {
				return of(p)
			}
		}
		return 0
	}
	return api.Point{X: first(x, -1), Y: first(y, -1)}, api.Point{X: first(x, 1), Y: first(y, 1)}
}

// plainCentre is the exact centre of mass, by triangles, or the middle of the box.
func plainCentre(r []api.Point) sample.Exact {
	area, sum := new(big.Rat), sample.Exact{X: new(big.Rat), Y: new(big.Rat)}
	for _, t := range fan(r) {
		twice := t[0].Cross(t[1])
		area.Add(area, twice)
		sum = sum.Plus(twice, t[0]).Plus(twice, t[1])
	}
	if area.Sign() == 0 {
		low, high := plainBox(r)
		p, q := sample.ExactOf(low), sample.ExactOf(high)
		return p.Plus(big.NewRat(1, 2), q.Less(p))
	}
	third := new(big.Rat).Inv(area.Mul(area, big.NewRat(3, 1)))
	return sample.ExactOf(r[0]).Plus(third, sum)
}

// finite tells whether a point's numbers are.
func finite(p api.Point) bool {
	return p.X>>52&2047 != 2047 && p.Y>>52&2047 != 2047
}

// byPatterns compares two points by the order of patterns: that of their numbers, -0 ahead of 0.
func byPatterns(p, q api.Point) int {
	number := func(a, b uint64) int {
		return cmp.Or(cmp.Compare(math.Float64frombits(a), math.Float64frombits(b)), cmp.Compare(b>>63, a>>63))
	}
	return cmp.Or(number(p.X, q.X), number(p.Y, q.Y))
}

// plainStart is the least of all ways to write a ring that P24.6 allows.
func plainStart(r []api.Point, left bool) []api.Point {
	var out []api.Point
	turn := plainArea(r).Sign()
	offer := func(l []api.Point) {
		if out == nil || slices.CompareFunc(l, out, byPatterns) < 0 {
			out = l
		}
	}
	for i := range max(len(r)-1, 1) {
		l := begun(r, i)
		if turn == 0 || (turn > 0) == left {
			offer(l)
		}
		if turn == 0 || (turn > 0) != left {
			offer(back(l))
		}
	}
	return out
}
