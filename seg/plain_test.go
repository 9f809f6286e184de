package seg_test

import (
	"math"

	"plumb/api"
	"plumb/sample"
)

const (
	great = 0x1p1023
	least = 0x1p-1074
	most  = math.MaxFloat64
)

var zero = math.Copysign(0, -1) // -0

// at gives a point by two floats.
func at(x, y float64) api.Point {
	return sample.Spot(x, y)
}

// row gives points by floats, two a point.
func row(l ...float64) []api.Point {
	return sample.Spots(l...)
}

// answered gives a meeting as Meet should.
func answered(m sample.Meeting) api.Meeting {
	out := api.Meeting{Kind: m.Kind, Proper: m.Proper}
	if m.Kind > 0 {
		out.P = m.P.Rounded()
	}
	if m.Kind > 1 {
		out.Q = m.Q.Rounded()
	}
	return out
}

// plainPairs is P23.4 as its words say.
func plainPairs(l []api.Point) [][2]int {
	var out [][2]int
	place := func(i int) sample.Exact { return sample.ExactOf(l[i]) }
	for i := range len(l) - 1 {
		for j := i + 1; j < len(l)-1; j++ {
			m := sample.Meet(l[i], l[i+1], l[j], l[j+1])
			has := m.Kind > 0
			if j == i+1 {
				has = m.Kind == 2 || m.Kind == 1 && m.P.Cmp(place(j)) != 0
			}
			if i == 0 && j == len(l)-2 && len(l) > 3 && place(0).Cmp(place(len(l)-1)) == 0 {
				has = m.Kind == 2 || m.Kind == 1 && m.P.Cmp(place(0)) != 0
			}
			if has {
				out = append(out, [2]int{i, j})
			}
		}
	}
	return out
}

// isFoot tells whether f is the place of the stretch from a to b that is nearest to p: it is on the stretch, and from it
// neither way along the stretch leads nearer to p.
func isFoot(f sample.Exact, a, b, p api.Point) bool {
	q, r := sample.ExactOf(a), sample.ExactOf(b)
	off := sample.ExactOf(p).Less(f)
	return f.On(q, r) && off.Dot(q.Less(f)).Sign() <= 0 && off.Dot(r.Less(f)).Sign() <= 0
}
