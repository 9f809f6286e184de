package tree

import (
	"plumb/api"
	"plumb/f64"
)

// look looks at geometries one by one, in the order of the text.
type look struct {
	left room
}

// newLook gives one that has seen nothing yet.
func newLook() *look {
	return &look{left: api.MaxPoints}
}

// wrong tells what is wrong with the next geometry; OK: nothing. Once something was, no other may be looked at.
func (l *look) wrong(at spot) api.Errno {
	switch {
	case at.level > api.MaxDepth:
		return api.ErrDeep
	case !fits(at.home, at.geom.Kind) || !shaped(at.geom):
		return api.ErrShape
	case !l.left.take(at.geom):
		return api.ErrMany
	case !finite(at.geom):
		return api.ErrNumber
	}
	return api.OK
}

// fits tells whether a geometry of that kind may be a part of one of the kind home.
func fits(home int, kind int) bool {
	switch home {
	case api.Points:
		return kind == api.APoint
	case api.Lines:
		return kind == api.ALine
	case api.Polygons:
		return kind == api.APolygon
	}
	return true
}

// shaped tells whether a geometry has what its kind may have, and nothing else; its parts are not looked at.
func shaped(g *api.Geom) bool {
	line, rings, parts := len(g.Line), len(g.Rings), len(g.Parts)
	switch g.Kind {
	case api.APoint:
		return line <= 1 && rings == 0 && parts == 0
	case api.ALine:
		return rings == 0 && parts == 0
	case api.APolygon:
		return line == 0 && parts == 0 && !hasEmptyRing(g)
	case api.Points, api.Lines, api.Polygons, api.Collection:
		return line == 0 && rings == 0
	}
	return false
}

// hasEmptyRing tells whether one of a geometry's rings has no point.
func hasEmptyRing(g *api.Geom) bool {
	for _, ring := range g.Rings {
		if len(ring) == 0 {
			return true
		}
	}
	return false
}

// finite tells whether all patterns of a geometry's own points are finite.
func finite(g *api.Geom) bool {
	for list := range lists(g) {
		for _, p := range list {
			if !isNumber(p.X) || !isNumber(p.Y) {
				return false
			}
		}
	}
	return true
}

// isNumber tells whether a pattern is finite.
func isNumber(b uint64) bool {
	class := f64.Class(b)
	return class != api.Infinite && class != api.NaN
}
