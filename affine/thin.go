package affine

import (
	"cmp"
	"slices"

	"plumb/api"
	"plumb/near"
	"plumb/rat"
	"plumb/seg"
)

// isLost tells whether a point is not finite.
func isLost(p api.Point) bool {
	_, e := near.Value(p.X)
	_, f := near.Value(p.Y)
	return e != api.OK || f != api.OK
}

// thinned gives those that stay of one point or more, but the first one.
func thinned(l []api.Point, square api.Rat) ([]api.Point, api.Errno) {
	last := len(l) - 1
	if last < 2 {
		return l[1:], api.OK
	}
	at, far := farthest(l)
	n, e := rat.Cmp(far, square)
	if e != api.OK || n <= 0 {
		return l[last:], e
	}
	there, e := thinned(l[:at+1], square)
	behind, f := thinned(l[at:], square)
	return slices.Concat(there, behind), cmp.Or(e, f)
}

// farthest gives the first of the points between two ends that is farthest from the stretch between these, and the square
// of its distance.
func farthest(l []api.Point) (at int, far api.Rat) {
	last := len(l) - 1
	at = 1
	far, _ = seg.Far(l[0], l[last], l[at])
	for i := 2; i < last; i++ {
		d, _ := seg.Far(l[0], l[last], l[i])
		// Not refused: a distance's numbers have some two hundred words.
		if n, _ := rat.Cmp(d, far); n > 0 {
			at, far = i, d
		}
	}
	return at, far
}
