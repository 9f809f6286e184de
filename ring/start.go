package ring

import (
	"cmp"
	"slices"

	"plumb/api"
)

// least gives points that follow one another round about, begun so that the list is the least.
func least(l []api.Point) []api.Point {
	twice := slices.Concat(l, l)
	out := l
	for i := range l {
		if way := twice[i : i+len(l)]; slices.CompareFunc(way, out, order) < 0 {
			out = way
		}
	}
	return slices.Clone(out)
}

// order compares two points by their patterns.
func order(p api.Point, q api.Point) int {
	return cmp.Or(cmp.Compare(key(p.X), key(q.X)), cmp.Compare(key(p.Y), key(q.Y)))
}

// key gives a number for a pattern, in the order of patterns.
func key(b uint64) uint64 {
	const sign = 1 << 63
	if b&sign != 0 {
		return ^b
	}
	return b | sign
}
