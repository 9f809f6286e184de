package ring

import (
	"plumb/api"
	"plumb/near"
	"plumb/rat"
)

// spot is a place by its exact numbers.
type spot struct {
	x, y api.Rat
}

// spotOf gives a finite point's place.
func spotOf(p api.Point) spot {
	x, _ := near.Value(p.X)
	y, _ := near.Value(p.Y)
	return spot{x, y}
}

// spotsOf gives finite points' places.
func spotsOf(l []api.Point) []spot {
	var out []spot
	for _, p := range l {
		out = append(out, spotOf(p))
	}
	return out
}

// weigh gives what a ring's centre is reckoned from: twice its area, and six times its area times X and Y of the centre.
func weigh(r []api.Point) (area api.Rat, x api.Rat, y api.Rat) {
	area, x, y = rat.Int(0), rat.Int(0), rat.Int(0)
	for a, b := range edges(spotsOf(r)) {
		c := cross(a, b)
		area = plus(area, c)
		x = plus(x, times(plus(a.x, b.x), c))
		y = plus(y, times(plus(a.y, b.y), c))
	}
	return area, x, y
}

// cross gives twice the area of the triangle from 0 to a to b.
func cross(a spot, b spot) api.Rat {
	out, _ := rat.Sub(times(a.x, b.y), times(b.x, a.y))
	return out
}

// middle gives the middle of the box of points.
func middle(l []api.Point) (api.Point, api.Errno) {
	low, high, _ := Box(l)
	p, q, two := spotOf(low), spotOf(high), rat.Int(2)
	return rounded(spot{over(plus(p.x, q.x), two), over(plus(p.y, q.y), two)})
}

// rounded gives a place as a point; ErrOverflow, if one of its numbers is too great.
func rounded(s spot) (api.Point, api.Errno) {
	x, e := near.Rat(s.x, api.Even)
	y, f := near.Rat(s.y, api.Even)
	if e != api.OK || f != api.OK {
		return api.Point{}, api.ErrOverflow
	}
	return api.Point{X: x, Y: y}, api.OK
}

// plus adds. Like all that is reckoned here it is never refused: of patterns' numbers, of some 2100 bits ahead of the point
// and behind it together, no more than a dozen come into one product, far fewer than api.MaxLimbs words.
func plus(a api.Rat, b api.Rat) api.Rat {
	out, _ := rat.Add(a, b)
	return out
}

// times multiplies.
func times(a api.Rat, b api.Rat) api.Rat {
	out, _ := rat.Mul(a, b)
	return out
}

// over divides by a number that isn't 0.
func over(a api.Rat, b api.Rat) api.Rat {
	out, _ := rat.Div(a, b)
	return out
}
