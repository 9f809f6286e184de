package affine

import (
	"cmp"

	"plumb/api"
	"plumb/near"
	"plumb/rat"
	"plumb/tree"
)

// changed gives the tree of nodes of which each has been changed; the first error comes with its node's number.
func changed(l []api.Node, change func(n api.Node) api.Errno) (api.Geom, error) {
	for i, n := range l {
		if e := change(n); e != api.OK {
			return api.Geom{}, api.Wrap(i, e)
		}
	}
	return tree.Grow(l)
}

// moved gives the tree of nodes of which each point has been moved.
func moved(l []api.Node, move func(p api.Point) (api.Point, api.Errno)) (api.Geom, error) {
	return changed(l, func(n api.Node) api.Errno {
		for i, p := range n.Line {
			q, e := move(p)
			if e != api.OK {
				return e
			}
			n.Line[i] = q
		}
		return api.OK
	})
}

// mapped gives the pattern of a x + b y + c, with a, b and c the three of m.
func mapped(m []api.Rat, p api.Point) (uint64, api.Errno) {
	// Once a call is refused, so are those that ask for its answer: the first tells why.
	x, e := rat.Mul(m[0], value(p.X))
	y, f := rat.Mul(m[1], value(p.Y))
	both, g := rat.Add(x, y)
	all, h := rat.Add(both, m[2])
	out, i := rounded(all)
	return out, cmp.Or(e, f, g, h, i)
}

// snapped gives the pattern of the multiple of a step that is nearest to a pattern's number.
func snapped(b uint64, step api.Rat) (uint64, api.Errno) {
	steps, e := rat.Div(value(b), step)
	if e != api.OK {
		return 0, e
	}
	at, e := rat.Mul(nearest(steps), step)
	if e != api.OK {
		return 0, e
	}
	return rounded(at)
}

// nearest gives the whole number that is nearest to q, of two as near the even one.
//
// Nothing in it is refused: no number on the way is greater than q's own two.
func nearest(q api.Rat) api.Rat {
	size := api.Rat{Num: q.Num, Den: q.Den}
	low, _ := rat.Floor(size)
	over, _ := rat.Sub(size, low)
	under, _ := rat.Sub(rat.Int(1), over)
	// They have one denominator; twice the one, or their products with it, might be too long.
	n, _ := rat.Cmp(numerator(over), numerator(under))
	if n > 0 || n == 0 && isOdd(low) {
		low, _ = rat.Add(low, rat.Int(1))
	}
	if q.Neg {
		low, _ = rat.Sub(rat.Int(0), low)
	}
	return low
}

// numerator gives it, by itself.
func numerator(r api.Rat) api.Rat {
	return api.Rat{Num: r.Num, Den: []uint64{1}}
}

// isOdd tells whether a whole number is odd.
func isOdd(r api.Rat) bool {
	return len(r.Num) > 0 && r.Num[0]%2 == 1
}

// value gives a finite pattern's number.
func value(b uint64) api.Rat {
	out, _ := near.Value(b)
	return out
}

// rounded gives a number's pattern; ErrAffine, if it is too great.
func rounded(r api.Rat) (uint64, api.Errno) {
	out, e := near.Rat(r, api.Even)
	if e == api.ErrOverflow {
		return 0, api.ErrAffine
	}
	return out, e
}
