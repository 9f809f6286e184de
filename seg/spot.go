package seg

import (
	"plumb/api"
	"plumb/near"
	"plumb/rat"
)

// spot is a place by its exact numbers, or the way from one place to another.
//
// Nothing that is done with spots here is refused: of patterns' numbers, of some 2100 bits ahead of the point and behind
// it together, at most a dozen are multiplied, far fewer than api.MaxLimbs words.
type spot struct {
	x, y api.Rat
}

// spotsOf gives points' places; ErrSpot, if one is not finite.
func spotsOf(l ...api.Point) ([]spot, api.Errno) {
	out := make([]spot, len(l))
	for i, p := range l {
		x, e := near.Value(p.X)
		y, f := near.Value(p.Y)
		if e != api.OK || f != api.OK {
			return nil, api.ErrSpot
		}
		out[i] = spot{x, y}
	}
	return out, api.OK
}

// rounded gives a place as a point.
func rounded(s spot) api.Point {
	// Never too great: a crossing lies between finite points.
	x, _ := near.Rat(s.x, api.Even)
	y, _ := near.Rat(s.y, api.Even)
	return api.Point{X: x, Y: y}
}

// way gives the way from a to b.
func way(a spot, b spot) spot {
	x, _ := rat.Sub(b.x, a.x)
	y, _ := rat.Sub(b.y, a.y)
	return spot{x, y}
}

// along gives the place at which one comes from a by such a share of a way.
func along(a spot, w spot, share api.Rat) spot {
	x, _ := rat.Mul(w.x, share)
	y, _ := rat.Mul(w.y, share)
	x, _ = rat.Add(a.x, x)
	y, _ = rat.Add(a.y, y)
	return spot{x, y}
}

// dot gives the product of two ways, as far as they go the same way.
func dot(v spot, w spot) api.Rat {
	x, _ := rat.Mul(v.x, w.x)
	y, _ := rat.Mul(v.y, w.y)
	out, _ := rat.Add(x, y)
	return out
}

// square gives the square of a way's length.
func square(w spot) api.Rat {
	return dot(w, w)
}

// reach tells how much of the whole way from a to b one must go to come as near to p as may be: from 0 to the whole.
func reach(a spot, b spot, p spot) (part api.Rat, whole api.Rat) {
	w := way(a, b)
	part, whole = dot(w, way(a, p)), square(w)
	if rat.Sign(part) < 0 {
		return rat.Int(0), whole
	}
	if n, _ := rat.Cmp(part, whole); n > 0 {
		return whole, whole
	}
	return part, whole
}
