package affine

import (
	"cmp"
	"slices"

	"plumb/api"
	"plumb/order"
)

// scales hold Geoms against one another. They are for no more than a tree may have: a Geom may lead back to itself.
type scales struct {
	left int // how many geometries and points may yet be laid on them
}

// refuse tells, of so many more, whether they are too many.
func (s *scales) refuse(n int) bool {
	s.left -= n
	return s.left < 0
}

// geoms compares two Geoms; a first one that is too great is behind.
func (s *scales) geoms(a api.Geom, b api.Geom) int {
	if s.refuse(1) {
		return 1
	}
	if n := cmp.Or(cmp.Compare(a.Kind, b.Kind), s.points(a.Line, b.Line)); n != 0 {
		return n
	}
	if n := slices.CompareFunc(a.Rings, b.Rings, s.points); n != 0 {
		return n
	}
	return slices.CompareFunc(a.Parts, b.Parts, s.geoms)
}

// points compares two lists of points.
func (s *scales) points(a []api.Point, b []api.Point) int {
	if s.refuse(min(len(a), len(b))) {
		return 1
	}
	return slices.CompareFunc(a, b, order.Points)
}
