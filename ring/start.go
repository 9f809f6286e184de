package ring

import (
	"slices"

	"plumb/api"
	"plumb/order"
)

// least gives points that follow one another round about, begun so that the list is the least.
func least(l []api.Point) []api.Point {
	twice := slices.Concat(l, l)
	out := l
	for i := range l {
		if way := twice[i : i+len(l)]; slices.CompareFunc(way, out, order.Points) < 0 {
			out = way
		}
	}
	return slices.Clone(out)
}
