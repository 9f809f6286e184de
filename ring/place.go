package ring

import (
	"iter"
	"slices"

	"plumb/api"
	"plumb/f64"
	"plumb/pred"
)

// place is a point's place by the ranks of its patterns: these are in the order of the numbers, and are one of 0 and -0.
type place struct {
	x, y int64
}

// placeOf gives a point's place; ErrSpot, if it is not finite.
func placeOf(p api.Point) (place, api.Errno) {
	x, e := f64.Rank(p.X)
	y, f := f64.Rank(p.Y)
	if e != api.OK || f != api.OK {
		return place{}, api.ErrSpot
	}
	return place{x, y}, api.OK
}

// placesOf gives the places of a ring's points, and behind them those of other points; ErrLoop, if it is no ring.
func placesOf(r []api.Point, others ...api.Point) ([]place, api.Errno) {
	if len(r) == 0 || len(r) > api.MaxRing {
		return nil, api.ErrLoop
	}
	var out []place
	for _, p := range slices.Concat(r, others) {
		at, e := placeOf(p)
		if e != api.OK {
			return nil, e
		}
		out = append(out, at)
	}
	if out[0] != out[len(r)-1] {
		return nil, api.ErrLoop
	}
	return out, api.OK
}

// point gives a place as a point.
func (p place) point() api.Point {
	x, _ := f64.At(p.x)
	y, _ := f64.At(p.y)
	return api.Point{X: x, Y: y}
}

// edges goes through a ring's edges, from each point to the next.
func edges[P any](ring []P) iter.Seq2[P, P] {
	return func(yield func(P, P) bool) {
		for i := 1; i < len(ring); i++ {
			if !yield(ring[i-1], ring[i]) {
				return
			}
		}
	}
}

// passes tells how the edge from a to b crosses the way from p straight to the right: upwards 1, downwards -1, not at all 0;
// or that p is on the edge.
func passes(a place, b place, p place) (n int, on bool) {
	rise := above(b, p) - above(a, p)
	switch {
	case p.x < min(a.x, b.x):
		return rise, false
	case p.x > max(a.x, b.x) || p.y < min(a.y, b.y) || p.y > max(a.y, b.y):
		return 0, false
	}
	// Only where p lies in the edge's own box a number must be reckoned.
	side, _ := pred.Orient(a.point(), b.point(), p.point())
	switch side {
	case 0:
		return 0, true
	case rise:
		return rise, false
	}
	return 0, false
}

// above is 1 of a place that is higher than p, else 0.
func above(a place, p place) int {
	if a.y > p.y {
		return 1
	}
	return 0
}
