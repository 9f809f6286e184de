package tree_test

import (
	"errors"
	"math"
	"testing"

	"plumb/api"
	"plumb/sample"
	"plumb/tree"
)

const (
	minus    = 1 << 63
	infinite = 0x7ff0000000000000
	greatest = 0x7fefffffffffffff
)

// lost is a place that is none.
func lost() api.Point {
	return api.Point{X: infinite, Y: 0}
}

// ring is one of four points.
func ring() []api.Point {
	return []api.Point{sample.At(0, 0), sample.At(1, 0), sample.At(0, 1), sample.At(0, 0)}
}

// places are so many points at 0.
func places(n int) []api.Point {
	return make([]api.Point, n)
}

// points are so many empty points.
func points(n int) []api.Geom {
	out := make([]api.Geom, n)
	for i := range out {
		out[i].Kind = api.APoint
	}
	return out
}

// isFault tells whether an error is a *api.Fault itself, with that place and that Errno.
func isFault(err error, at int, code api.Errno) bool {
	fault, ok := err.(*api.Fault)
	return ok && fault.At == at && fault.Err == error(code) && errors.Is(err, code)
}

// fault is a Geom that is no tree, and what Check says of it.
type fault struct {
	what string
	g    api.Geom
	at   int
	code api.Errno
}

// asks holds Check, and Flat by it, to what they say.
func asks(t *testing.T, list []fault) {
	t.Helper()
	for _, c := range list {
		if err := tree.Check(c.g); !isFault(err, c.at, c.code) {
			t.Errorf("Check of %s: %v, want %d at %d", c.what, err, c.code, c.at)
		}
		if l, err := tree.Flat(c.g); len(l) != 0 || !isFault(err, c.at, c.code) {
			t.Errorf("Flat of %s: %d nodes, %v, want %d at %d", c.what, len(l), err, c.code, c.at)
		}
	}
}

// P15.1: what is a tree, up to the limits.
func TestCheckTakes(t *testing.T) {
	list := append(sample.Trees(),
		sample.Line(places(api.MaxPoints-1)...),
		sample.Polygon(places(30000), places(api.MaxPoints-30001)),
		sample.Group(api.Points, points(api.MaxPoints-1)...),
		sample.Group(api.Collection, sample.Line(places(api.MaxPoints-3)...), sample.Point()),
		sample.Deep(api.MaxDepth, sample.Line(places(api.MaxPoints-api.MaxDepth)...)),
		sample.Point(api.Point{X: greatest, Y: greatest | minus}),
		sample.Point(api.Point{X: 1, Y: minus}),
		api.Geom{Kind: api.APoint, Line: []api.Point{}, Rings: [][]api.Point{}, Parts: []api.Geom{}},
		api.Geom{Kind: api.APolygon, Line: []api.Point{}, Rings: [][]api.Point{}, Parts: []api.Geom{}},
		api.Geom{Kind: api.Collection, Line: []api.Point{}, Rings: [][]api.Point{}, Parts: []api.Geom{}})
	for i, g := range list {
		if err := tree.Check(g); err != nil {
			t.Errorf("Check of tree %d: %v", i, err)
		}
	}
}

// P15.1, P15.6: wrong shapes.
func TestCheckShape(t *testing.T) {
	at, part, one := []api.Point{sample.At(1, 2)}, []api.Geom{sample.Point()}, [][]api.Point{ring()}
	list := []fault{
		{"nothing", api.Geom{}, 0, api.ErrShape},
		{"two places", sample.Point(sample.At(0, 0), sample.At(1, 1)), 0, api.ErrShape},
		{"a ring of none", sample.Polygon(nil), 0, api.ErrShape},
		{"a last ring of none", sample.Polygon(ring(), ring(), []api.Point{}), 0, api.ErrShape},
		{"a first ring of none", sample.Polygon(nil, ring()), 0, api.ErrShape},
		{"a part that is nothing", sample.Group(api.Collection, sample.Point(), api.Geom{}), 2, api.ErrShape},
		{"the example", sample.Group(7, sample.Point(), sample.Group(4, sample.Point(), sample.Line())), 4, api.ErrShape},
		{"a wrong one behind deep ones", sample.Group(7, sample.Deep(5, sample.Point()), api.Geom{Kind: 9}), 6, api.ErrShape},
		{"the first of two", sample.Group(7, sample.Group(7, sample.Line(), api.Geom{Kind: 8}), api.Geom{}), 3, api.ErrShape},
	}
	for _, kind := range []int{0, -1, 8, 9, 1 << 32, 1<<32 + 1, math.MaxInt, math.MinInt} {
		list = append(list,
			fault{"a kind that is none", api.Geom{Kind: kind}, 0, api.ErrShape},
			fault{"a kind that is none, with parts", api.Geom{Kind: kind, Parts: part}, 0, api.ErrShape},
			fault{"a part that is none", sample.Group(api.Collection, api.Geom{Kind: kind, Line: at}), 1, api.ErrShape})
	}
	for kind := 1; kind <= 7; kind++ {
		if kind > api.ALine {
			list = append(list, fault{"a Line too many", api.Geom{Kind: kind, Line: at}, 0, api.ErrShape})
		}
		if kind != api.APolygon {
			list = append(list, fault{"Rings too many", api.Geom{Kind: kind, Rings: one}, 0, api.ErrShape})
			list = append(list, fault{"Rings of none too many", api.Geom{Kind: kind, Rings: [][]api.Point{nil}}, 0, api.ErrShape})
		}
		if kind < api.Points {
			list = append(list, fault{"Parts too many", api.Geom{Kind: kind, Parts: part}, 0, api.ErrShape})
		}
	}
	asks(t, list)
}

// P15.1: which kinds may be parts of which.
func TestCheckParts(t *testing.T) {
	for home := api.Points; home <= api.Collection; home++ {
		for kind := 1; kind <= 7; kind++ {
			right := home == api.Collection || kind == home-3
			err := tree.Check(sample.Group(home, api.Geom{Kind: kind}))
			if right && err != nil || !right && !isFault(err, 1, api.ErrShape) {
				t.Errorf("Check of a %d in a %d: %v", kind, home, err)
			}
		}
	}
}

// P15.1, P15.6: too deep, too many, not finite.
func TestCheckLimits(t *testing.T) {
	const most = api.MaxPoints
	asks(t, []fault{
		{"257 levels", sample.Deep(257, sample.Point()), 256, api.ErrDeep},
		{"300 levels", sample.Deep(300, sample.Point()), 256, api.ErrDeep},
		{"257 levels behind others", sample.Group(7, sample.Deep(200, sample.Line()), sample.Deep(256, sample.Line())), 456, api.ErrDeep},
		{"a point at level 257 of a MULTIPOINT", sample.Deep(256, sample.Group(4, sample.Point())), 256, api.ErrDeep},
		{"65536 points", sample.Line(places(most)...), 0, api.ErrMany},
		{"65536 points in two rings", sample.Polygon(places(30000), places(most-30000)), 0, api.ErrMany},
		{"65536 parts", sample.Group(7, points(most)...), most, api.ErrMany},
		{"65540 parts", sample.Group(4, points(most+4)...), most, api.ErrMany},
		{"a line too many", sample.Group(7, sample.Line(places(most-2)...), sample.Line()), 2, api.ErrMany},
		{"a point too many", sample.Group(7, sample.Line(places(most-3)...), sample.Point(sample.At(1, 1))), 2, api.ErrMany},
		{"the example", sample.Group(7, sample.Point(), sample.Point(lost())), 2, api.ErrNumber},
		{"infinite at the end", sample.Line(sample.At(0, 0), lost()), 0, api.ErrNumber},
		{"infinite in a last ring", sample.Polygon(ring(), append(ring(), lost())), 0, api.ErrNumber},
		{"infinite, the last that has room", sample.Line(append(places(most-2), lost())...), 0, api.ErrNumber},
	})
	for _, b := range []uint64{infinite, infinite | minus, infinite + 1, 0x7ff8000000000000, math.MaxUint64} {
		asks(t, []fault{
			{"an X", sample.Point(api.Point{X: b}), 0, api.ErrNumber},
			{"a Y", sample.Point(api.Point{Y: b}), 0, api.ErrNumber},
			{"a Y of a line", sample.Group(5, sample.Line(), sample.Line(sample.At(1, 1), api.Point{Y: b})), 2, api.ErrNumber},
		})
	}
}

// P15.1: what is told where several things are wrong with one geometry, and of two that are wrong the first.
func TestCheckOrder(t *testing.T) {
	const most = api.MaxPoints
	many := append(places(most), lost())
	asks(t, []fault{
		{"deep and no kind", sample.Deep(257, api.Geom{Kind: 9}), 256, api.ErrDeep},
		{"deep and many", sample.Deep(257, sample.Line(many...)), 256, api.ErrDeep},
		{"deep and not finite", sample.Deep(257, sample.Point(lost())), 256, api.ErrDeep},
		{"no kind and many", api.Geom{Kind: 8, Line: many}, 0, api.ErrShape},
		{"a ring of none behind many", sample.Polygon(many, nil), 0, api.ErrShape},
		{"Parts and many", api.Geom{Kind: 2, Line: many, Parts: points(1)}, 0, api.ErrShape},
		{"no member and many", sample.Group(4, sample.Line(many...)), 1, api.ErrShape},
		{"no member and not finite", sample.Group(5, sample.Point(lost())), 1, api.ErrShape},
		{"many and not finite", sample.Line(many...), 0, api.ErrMany},
		{"not finite, then no kind", sample.Group(7, sample.Point(lost()), api.Geom{}), 1, api.ErrNumber},
		{"no kind, then not finite", sample.Group(7, api.Geom{}, sample.Point(lost())), 1, api.ErrShape},
		{"no kind, with a part that is too deep", sample.Deep(256, api.Geom{Kind: 9, Parts: points(1)}), 255, api.ErrShape},
		{"many, then deep", sample.Group(7, sample.Line(places(most-1)...), sample.Deep(300, sample.Point())), 1, api.ErrMany},
		{"deep, then many", sample.Group(7, sample.Deep(300, sample.Point()), sample.Line(many...)), 256, api.ErrDeep},
	})
}

// circle is a collection that is the last part of itself, behind so many empty points.
func circle(ahead int) api.Geom {
	parts := append(points(ahead), api.Geom{Kind: api.Collection})
	parts[ahead].Parts = parts
	return parts[ahead]
}

// twofold is a collection of two parts that are one memory, and so on, so many levels down to a line.
func twofold(levels int, g api.Geom) api.Geom {
	for range levels - 1 {
		g = sample.Group(api.Collection, g, g)
	}
	return g
}

// P15.1, P15.6: Geoms without end, and such as unfold to more than any memory holds.
func TestCheckOfCirclesAndUnfolded(t *testing.T) {
	same := places(60000)
	rings := make([][]api.Point, 60000)
	for i := range rings {
		rings[i] = same
	}
	lines := make([]api.Geom, 60000)
	for i := range lines {
		lines[i] = sample.Line(same...)
	}
	asks(t, []fault{
		{"a circle", circle(0), 256, api.ErrDeep},
		{"a circle with a point", circle(1), 511, api.ErrDeep},
		{"a wide circle", circle(1000), api.MaxPoints, api.ErrMany},
		{"60 levels of two", twofold(60, sample.Point()), api.MaxPoints, api.ErrMany},
		{"256 levels of two", twofold(256, sample.Line()), api.MaxPoints, api.ErrMany},
		{"300 levels of two", twofold(300, sample.Line()), 256, api.ErrDeep},
		{"60000 rings of one memory", sample.Polygon(rings...), 0, api.ErrMany},
		{"60000 lines of one memory", sample.Group(api.Lines, lines...), 2, api.ErrMany},
	})
	if err := tree.Check(twofold(16, sample.Point())); err != nil {
		t.Errorf("Check of 65535 geometries in one memory: %v", err)
	}
}
