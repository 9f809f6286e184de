package affine

import (
	"slices"

	"plumb/api"
	"plumb/order"
	"plumb/ring"
)

// startRings writes each ring of a node, if it is a polygon's, in the one way: the first to the left, the others to the
// right.
func startRings(n api.Node) api.Errno {
	if n.Kind != api.APolygon {
		return api.OK
	}
	rest := n.Line
	for i, size := range n.Sizes {
		r, e := ring.Start(rest[:size], i == 0)
		if e != api.OK {
			return e
		}
		copy(rest, r)
		rest = rest[size:]
	}
	return api.OK
}

// arrange puts a tree's holes and parts in order, from within.
func arrange(g api.Geom) {
	for _, part := range g.Parts {
		arrange(part)
	}
	inOrder(g.Parts, Less)
	if len(g.Rings) > 1 {
		inOrder(g.Rings[1:], func(a []api.Point, b []api.Point) bool {
			return slices.CompareFunc(a, b, order.Points) < 0
		})
	}
}

// inOrder puts a list in the order in which ahead tells of two whether the first stands ahead.
func inOrder[T any](l []T, ahead func(a T, b T) bool) {
	slices.SortFunc(l, func(a T, b T) int {
		switch {
		case ahead(a, b):
			return -1
		case ahead(b, a):
			return 1
		}
		return 0
	})
}
