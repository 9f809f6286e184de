package sample

import (
	"math"
	"slices"

	"plumb/api"
)

// At is the place of two whole numbers.
func At(x int, y int) api.Point {
	return api.Point{X: math.Float64bits(float64(x)), Y: math.Float64bits(float64(y))}
}

// Point is a point with that place, or an empty one.
func Point(l ...api.Point) api.Geom {
	return api.Geom{Kind: api.APoint, Line: l}
}

// Line is a line string.
func Line(l ...api.Point) api.Geom {
	return api.Geom{Kind: api.ALine, Line: l}
}

// Polygon is a polygon with these rings.
func Polygon(rings ...[]api.Point) api.Geom {
	return api.Geom{Kind: api.APolygon, Rings: rings}
}

// Group is a geometry of that kind with these parts.
func Group(kind int, parts ...api.Geom) api.Geom {
	return api.Geom{Kind: kind, Parts: parts}
}

// Deep is a geometry within so many collections that it stands at that level.
func Deep(level int, g api.Geom) api.Geom {
	for range level - 1 {
		g = Group(api.Collection, g)
	}
	return g
}

// Trees are trees of every kind, empty and not, with -0 and patterns at the ends, nested, and others by a fixed rule.
func Trees() []api.Geom {
	const minus = 1 << 63
	last := api.Point{X: 0x7fefffffffffffff, Y: 0xffefffffffffffff}
	ring := []api.Point{At(0, 0), At(4, 0), At(0, 4), At(0, 0)}
	hole := []api.Point{At(1, 1), At(2, 1), At(1, 2), At(1, 1)}
	out := []api.Geom{
		Point(), Point(At(1, 2)), Point(api.Point{X: minus, Y: 0}), Point(api.Point{X: 0, Y: minus}), Point(last),
		Line(), Line(At(0, 0)), Line(At(0, 0), At(1, 1), At(2, 0)), Line(last, api.Point{X: 1, Y: minus + 1}),
		Polygon(), Polygon(ring), Polygon(ring, hole), Polygon(ring[:1]), Polygon(ring[:3], hole[:1], hole),
		Group(api.Points), Group(api.Points, Point()), Group(api.Points, Point(At(1, 2)), Point(), Point(At(3, 4))),
		Group(api.Lines), Group(api.Lines, Line(At(0, 0), At(1, 1)), Line()),
		Group(api.Polygons), Group(api.Polygons, Polygon(ring, hole), Polygon(), Polygon(hole)),
		Group(api.Collection), Group(api.Collection, Point(At(1, 2)), Group(api.Collection)),
		Group(api.Collection, Point(), Group(api.Points, Point(At(1, 1)), Point(At(2, 2))), Line(), Polygon(ring)),
		Deep(api.MaxDepth, Polygon(ring)), Deep(api.MaxDepth, Group(api.Lines)),
	}
	rule := Rule(0x2545f4914f6cdd1d)
	for range 300 {
		out = append(out, rule.Tree(6))
	}
	return out
}

// Tree gives a tree of no more levels than that, from the row.
func (r *Rule) Tree(levels int) api.Geom {
	kind := 1 + r.Below(7)
	if levels < 2 {
		kind = 1 + r.Below(3)
	}
	return r.kind(kind, levels)
}

// kind gives a tree of that kind.
func (r *Rule) kind(kind int, levels int) api.Geom {
	g := api.Geom{Kind: kind}
	switch kind {
	case api.APoint:
		g.Line = r.Places(r.Below(2))
	case api.ALine:
		g.Line = r.Places(r.Below(5))
	case api.APolygon:
		for range r.Below(4) {
			g.Rings = append(g.Rings, r.Places(1+r.Below(5)))
		}
	case api.Collection:
		for range r.Below(5) {
			g.Parts = append(g.Parts, r.Tree(levels-1))
		}
	default:
		for range r.Below(4) {
			g.Parts = append(g.Parts, r.kind(kind-api.Points+api.APoint, levels-1))
		}
	}
	return g
}

// Places gives so many finite points of the row: small whole numbers mostly, 0 and -0 among them, and any others.
func (r *Rule) Places(n int) []api.Point {
	out := make([]api.Point, n)
	for i := range out {
		out[i] = api.Point{X: r.number(), Y: r.number()}
	}
	return out
}

// number gives a finite pattern of the row.
func (r *Rule) number() uint64 {
	b := r.Next()
	switch {
	case r.Below(4) == 0 && b>>52&2047 != 2047:
		return b
	case r.Below(4) == 0:
		return b & (1 << 63)
	}
	return math.Float64bits(float64(r.Below(9) - 4))
}

// Geom gives a Geom of the row of no more levels than that, whatever its kinds and lists are, rings without points and
// patterns that are not finite among them.
func (r *Rule) Geom(levels int) api.Geom {
	g := api.Geom{Kind: r.Below(10) - 1, Line: r.Places(r.Below(3))}
	for range r.Below(3) {
		g.Rings = append(g.Rings, r.Places(r.Below(3)))
	}
	for i := range g.Line {
		if r.Below(8) == 0 {
			g.Line[i].X = 0x7ff0000000000000 | r.Next()
		}
	}
	if levels > 1 {
		for range r.Below(4) {
			g.Parts = append(g.Parts, r.Geom(levels-1))
		}
	}
	return g
}

// Roomy gives a list with spare room behind it, in which something stands.
func Roomy[T any](l []T, mark T) []T {
	return slices.Concat(l, []T{mark, mark})[:len(l)]
}

// RoomyPoints gives points with spare room behind them.
func RoomyPoints(l []api.Point) []api.Point {
	return Roomy(l, api.Point{X: 0x1234, Y: 0x5678})
}

// RoomyGeom gives a Geom in memory of its own, all of whose lists have spare room behind them.
func RoomyGeom(g api.Geom) api.Geom {
	out := api.Geom{Kind: g.Kind, Line: RoomyPoints(g.Line)}
	rings := make([][]api.Point, len(g.Rings))
	for i, ring := range g.Rings {
		rings[i] = RoomyPoints(ring)
	}
	parts := make([]api.Geom, len(g.Parts))
	for i, part := range g.Parts {
		parts[i] = RoomyGeom(part)
	}
	out.Rings = Roomy(rings, []api.Point{At(5, 5)})
	out.Parts = Roomy(parts, api.Geom{Kind: 77, Line: []api.Point{At(7, 7)}})
	return out
}

// RoomyNodes gives nodes in memory of their own, all of whose lists have spare room behind them.
func RoomyNodes(l []api.Node) []api.Node {
	out := make([]api.Node, len(l))
	for i, n := range l {
		out[i] = api.Node{Kind: n.Kind, Sizes: Roomy(n.Sizes, 55), Line: RoomyPoints(n.Line)}
	}
	return Roomy(out, api.Node{Kind: 66})
}

// WholeGeom gives a Geom in memory of its own, with all that stands in the spare room of its lists as if it were theirs.
func WholeGeom(g api.Geom) api.Geom {
	out := api.Geom{Kind: g.Kind, Line: whole(g.Line), Rings: whole(g.Rings), Parts: whole(g.Parts)}
	for i := range out.Rings {
		out.Rings[i] = whole(out.Rings[i])
	}
	for i := range out.Parts {
		out.Parts[i] = WholeGeom(out.Parts[i])
	}
	return out
}

// WholeNodes gives nodes likewise.
func WholeNodes(l []api.Node) []api.Node {
	out := whole(l)
	for i, n := range out {
		out[i] = api.Node{Kind: n.Kind, Sizes: whole(n.Sizes), Line: whole(n.Line)}
	}
	return out
}

// whole gives a list and its spare room in memory of their own.
func whole[T any](l []T) []T {
	return slices.Clone(l[:cap(l)])
}

// Ground notes on which memory lists stand; it comes from NewGround.
type Ground struct {
	taken map[any]int
}

// NewGround gives one on which nothing stands yet.
func NewGround() Ground {
	return Ground{taken: map[any]int{}}
}

// Geom notes all lists of a Geom with their spare room. It tells whether each stands apart from all that were noted.
func (m Ground) Geom(g api.Geom) bool {
	ok := note(m, g.Line) && note(m, g.Rings) && note(m, g.Parts)
	for _, ring := range g.Rings {
		ok = ok && note(m, ring)
	}
	for _, part := range g.Parts {
		ok = ok && m.Geom(part)
	}
	return ok
}

// Nodes does so of nodes.
func (m Ground) Nodes(l []api.Node) bool {
	ok := note(m, l)
	for _, n := range l {
		ok = ok && note(m, n.Sizes) && note(m, n.Line)
	}
	return ok
}

// Points does so of points.
func (m Ground) Points(l []api.Point) bool {
	return note(m, l)
}

// note notes every element of a list and of its spare room.
func note[T any](m Ground, l []T) bool {
	l = l[:cap(l)]
	for i := range l {
		if m.taken[&l[i]] != 0 {
			return false
		}
		m.taken[&l[i]] = 1
	}
	return true
}
