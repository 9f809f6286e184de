package tree

import (
	"iter"

	"plumb/api"
)

// reach is how many geometries and points together a Geom may have of which calls that take any Geom tell something. The
// document asks for api.MaxPoints; of two such Put makes one of nearly twice as many, and that may be asked about too.
const reach = 2 * api.MaxPoints

// spot is a geometry where it stands in the order of the text.
type spot struct {
	geom   *api.Geom
	number int
	level  int
	home   int // the kind of what it is a part of; of the root 0
}

// row is what is yet to come of one geometry's parts.
type row struct {
	home  int
	parts []api.Geom
}

// all gives the geometries of a tree in the order of the text. A geometry's parts are asked for only when its own turn is
// over: so the caller may lay others there, and a Geom that leads back to itself is gone through as far as the caller
// goes on. It calls itself nowhere: parts may be nested very deep.
func all(root *api.Geom) iter.Seq[spot] {
	return func(yield func(spot) bool) {
		var open []row
		at := spot{geom: root, level: 1}
		for yield(at) {
			open = append(open, row{at.geom.Kind, at.geom.Parts})
			for len(open) > 0 && len(open[len(open)-1].parts) == 0 {
				open = open[:len(open)-1]
			}
			if len(open) == 0 {
				return
			}
			last := &open[len(open)-1]
			at = spot{geom: &last.parts[0], number: at.number + 1, level: len(open) + 1, home: last.home}
			last.parts = last.parts[1:]
		}
	}
}

// known gives the geometries of a tree as all does; of one that is greater than reach, or has no end, none.
func known(root *api.Geom) iter.Seq[spot] {
	if !told(root) {
		return func(func(spot) bool) {}
	}
	return all(root)
}

// told tells whether a tree's geometries and points are no more than reach.
func told(root *api.Geom) bool {
	left := room(reach)
	for at := range all(root) {
		if !left.take(at.geom) {
			return false
		}
	}
	return true
}

// lists gives the lists of a geometry's own points, in their order.
func lists(g *api.Geom) iter.Seq[[]api.Point] {
	return func(yield func([]api.Point) bool) {
		if !yield(g.Line) {
			return
		}
		for _, ring := range g.Rings {
			if !yield(ring) {
				return
			}
		}
	}
}

// room is how many geometries and points may yet come.
type room int

// take takes away what a geometry and its own points need, and tells whether there was as much.
func (r *room) take(g *api.Geom) bool {
	*r--
	for list := range lists(g) {
		// Looked at list by list: rings that share memory may be more than an int holds.
		if *r < 0 {
			return false
		}
		*r -= room(len(list))
	}
	return *r >= 0
}
