package pred

import (
	"plumb/api"
	"plumb/near"
	"plumb/rat"
)

// spot is the place of a point, or the way from one place to another: its two numbers.
type spot [2]api.Rat

const (
	x = iota
	y
)

// spotsOf gives the places of points; ErrSpot, if one is not finite.
func spotsOf(l ...api.Point) ([]spot, api.Errno) {
	out := make([]spot, len(l))
	for i, p := range l {
		for axis, b := range [2]uint64{p.X, p.Y} {
			v, e := near.Value(b)
			if e != api.OK {
				return nil, api.ErrSpot
			}
			out[i][axis] = v
		}
	}
	return out, api.OK
}

// product stands for the product of two numbers.
type product [2]api.Rat

// sum gives the sum of products.
//
// Nothing here is refused: what comes of patterns of 1024 bits ahead of the point and 1074 behind it by at most four
// factors has far fewer words than api.MaxLimbs.
func sum(first product, more ...product) api.Rat {
	out, _ := rat.Mul(first[0], first[1])
	for _, p := range more {
		v, _ := rat.Mul(p[0], p[1])
		out, _ = rat.Add(out, v)
	}
	return out
}

// from gives the way from a place to another.
func from(a spot, b spot) spot {
	dx, _ := rat.Sub(b[x], a[x])
	dy, _ := rat.Sub(b[y], a[y])
	return spot{dx, dy}
}

// cross gives twice the area between two ways, above 0 if the second goes to the left of the first.
func cross(p spot, q spot) api.Rat {
	return sum(product{p[x], q[y]}, product{opposite(p[y]), q[x]})
}

// square gives the square of a way's length.
func square(p spot) api.Rat {
	return sum(product{p[x], p[x]}, product{p[y], p[y]})
}

// opposite gives a number with its sign turned, to be read alone: it shares the number's memory.
func opposite(a api.Rat) api.Rat {
	a.Neg = !a.Neg && rat.Sign(a) != 0
	return a
}

// area2 gives twice the area of three places, above 0 if they turn left.
func area2(a spot, b spot, c spot) api.Rat {
	return cross(from(a, b), from(a, c))
}

// turn tells its sign.
func turn(a spot, b spot, c spot) int {
	return rat.Sign(area2(a, b, c))
}

// order compares places by x, then y.
func order(a spot, b spot) int {
	n, _ := rat.Cmp(a[x], b[x])
	if n == 0 {
		n, _ = rat.Cmp(a[y], b[y])
	}
	return n
}
