package valid

import (
	"slices"

	"plumb/api"
	"plumb/tree"
)

// asking is what a geometry asks of the plane, its parts aside.
type asking interface {
	// points tells how many are held against one another.
	points() int
}

type (
	line     []api.Point
	polygon  [][]api.Point
	polygons []api.Geom
	nothing  struct{}
)

func (nothing) points() int { return 0 }

// points of a line are none: each is held against the first one alone.
func (line) points() int { return 0 }

func (p polygon) points() int {
	total := 0
	for _, r := range p {
		total += len(r)
	}
	return total
}

func (p polygons) points() int {
	total := 0
	for _, part := range p {
		total += polygon(part.Rings).points()
	}
	return total
}

// askingOf gives what a geometry asks.
func askingOf(g api.Geom) asking {
	switch g.Kind {
	case api.ALine:
		return line(g.Line)
	case api.APolygon:
		return polygon(g.Rings)
	case api.Polygons:
		return polygons(g.Parts)
	}
	return nothing{}
}

// flawOf gives a geometry's flaw; sound: none of its parts has one.
func flawOf(a asking, sound bool) api.Flaw {
	switch a := a.(type) {
	case line:
		return lineFlaw(a)
	case polygon:
		return polygonFlaw(a)
	case polygons:
		if sound {
			return overlapFlaw(a)
		}
	}
	return api.Flaw{}
}

// finding is a geometry of a tree with its flaw: what it asks, the number of the geometry that it is a part of (-1: none),
// and its own among the parts there.
type finding struct {
	asks asking
	home int
	part int
	flaw api.Flaw
}

// isFlaw tells whether there is a flaw.
func (f finding) isFlaw() bool {
	return f.flaw.Kind != 0
}

// look gives the findings of all geometries, in the order of the text.
func look(g api.Geom) ([]finding, api.Errno) {
	if tree.Check(g) != nil {
		return []finding{{home: -1, flaw: api.Flaw{Kind: api.FlawShape}}}, api.OK
	}
	l := spread(g)
	tooMany := func(f finding) bool { return f.asks.points() > api.MaxRing }
	if slices.ContainsFunc(l, tooMany) {
		return nil, api.ErrCost
	}
	hurt := make([]bool, len(l))
	// From the last one on, so that parts are looked at ahead of what they are parts of.
	for i, f := range slices.Backward(l) {
		l[i].flaw = flawOf(f.asks, !hurt[i])
		if l[i].isFlaw() && f.home >= 0 {
			hurt[f.home] = true
		}
	}
	return l, api.OK
}

// spread lays all geometries of a tree one behind the other, in the order of the text, not looked at yet.
func spread(g api.Geom) []finding {
	var out []finding
	var add func(g api.Geom, home int, part int)
	add = func(g api.Geom, home int, part int) {
		number := len(out)
		out = append(out, finding{asks: askingOf(g), home: home, part: part})
		for i, p := range g.Parts {
			add(p, number, i)
		}
	}
	add(g, -1, 0)
	return out
}

// told gives the flaw of one of all findings, with its path.
func told(l []finding, i int) api.Flaw {
	out := l[i].flaw
	for ; l[i].home >= 0; i = l[i].home {
		out.Path = append(out.Path, l[i].part)
	}
	slices.Reverse(out.Path)
	return out
}
