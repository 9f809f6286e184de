package tree_test

import (
	"slices"
	"testing"

	"plumb/api"
	"plumb/sample"
	"plumb/tree"
)

// P15.2: the chapter's example 2, and Geoms that are no trees.
func TestDepthCountPoints(t *testing.T) {
	flat := []api.Point{sample.At(0, 0), sample.At(1, 0), sample.At(0, 0)}
	mixed := sample.Group(7, sample.Point(sample.At(1, 2)), sample.Line(sample.At(0, 0), sample.At(1, 1)), sample.Polygon(flat))
	strange := api.Geom{
		Kind:  9,
		Line:  []api.Point{sample.At(1, 1), lost()},
		Rings: [][]api.Point{{sample.At(2, 2)}, nil, {sample.At(3, 3), sample.At(4, 4)}},
		Parts: []api.Geom{{Kind: -1, Rings: [][]api.Point{{sample.At(6, 6)}}, Line: []api.Point{sample.At(5, 5)}}, {}},
	}
	for _, c := range []struct {
		what         string
		g            api.Geom
		depth, geoms int
		points       []api.Point
	}{
		{"an empty point", sample.Point(), 1, 1, nil},
		{"an empty collection", sample.Group(7), 1, 1, nil},
		{"a point", sample.Point(sample.At(1, 2)), 1, 1, []api.Point{sample.At(1, 2)}},
		{"three levels", sample.Group(7, sample.Group(4, sample.Point())), 3, 3, nil},
		{"the deepest not the last", sample.Group(7, sample.Deep(9, sample.Line(flat...)), sample.Point()), 10, 11, flat},
		{"the deepest the last", sample.Group(7, sample.Point(), sample.Deep(9, sample.Line(flat...))), 10, 11, flat},
		{"the example", mixed, 2, 4, slices.Concat([]api.Point{sample.At(1, 2), sample.At(0, 0), sample.At(1, 1)}, flat)},
		{"nothing", api.Geom{}, 1, 1, nil},
		{"a strange one", strange, 2, 3, []api.Point{
			sample.At(1, 1), lost(), sample.At(2, 2), sample.At(3, 3), sample.At(4, 4), sample.At(5, 5), sample.At(6, 6),
		}},
		{"deeper than a tree", sample.Deep(300, sample.Point()), 300, 300, nil},
		{"as much as is told of", sample.Line(places(api.MaxPoints - 1)...), 1, 1, places(api.MaxPoints - 1)},
		{"as many as are told of", sample.Group(7, points(api.MaxPoints-1)...), 2, api.MaxPoints, nil},
		{"as deep as is told of", sample.Deep(api.MaxPoints, sample.Line()), api.MaxPoints, api.MaxPoints, nil},
		{"16 levels of two in one memory", twofold(16, sample.Point()), 16, 65535, nil},
	} {
		if depth := tree.Depth(c.g); depth != c.depth {
			t.Errorf("Depth of %s: %d, want %d", c.what, depth, c.depth)
		}
		if geoms, n := tree.Count(c.g); geoms != c.geoms || n != len(c.points) {
			t.Errorf("Count of %s: %d, %d, want %d, %d", c.what, geoms, n, c.geoms, len(c.points))
		}
		if got := tree.Points(c.g); !slices.Equal(got, c.points) {
			t.Errorf("Points of %s: %d, want %d", c.what, len(got), len(c.points))
		}
	}
}

// P15.3: the chapter's example 3; Geoms that differ in one thing alone.
func TestEqual(t *testing.T) {
	list := []api.Geom{
		{}, {Kind: 1}, {Kind: 2}, {Kind: 7}, {Kind: 9}, {Kind: -1},
		sample.Point(sample.At(0, 0)), sample.Point(api.Point{X: minus}), sample.Point(api.Point{Y: minus}),
		sample.Point(lost()), sample.Point(api.Point{X: infinite + 1}), sample.Point(api.Point{X: infinite + 2}),
		sample.Line(sample.At(0, 0)), sample.Line(sample.At(0, 0), sample.At(1, 1)), sample.Line(sample.At(1, 1), sample.At(0, 0)),
		sample.Polygon(nil), sample.Polygon(nil, nil), sample.Polygon(ring()), sample.Polygon(ring(), nil), sample.Polygon(nil, ring()),
		sample.Polygon(ring()[:2], ring()[2:]), sample.Polygon(ring()[:3], ring()[3:]),
		sample.Group(7, sample.Point()), sample.Group(7, sample.Line()), sample.Group(4, sample.Point()),
		sample.Group(7, sample.Point(), sample.Line()), sample.Group(7, sample.Line(), sample.Point()),
		sample.Group(7, sample.Group(7), sample.Group(7)), sample.Group(7, sample.Group(7, sample.Group(7))),
		sample.Group(7, sample.Group(7, sample.Point()), sample.Point()), sample.Group(7, sample.Group(7, sample.Point(), sample.Point())),
	}
	differ(t, list)
	for kind := range 9 {
		a, b := api.Geom{Kind: kind}, api.Geom{Kind: kind, Line: []api.Point{}, Rings: [][]api.Point{}, Parts: []api.Geom{}}
		if !tree.Equal(a, b) || !tree.Equal(b, a) || !tree.Equal(sample.Group(7, a), sample.Group(7, b)) {
			t.Errorf("Equal of nil and empty lists, kind %d: false", kind)
		}
	}
	if !tree.Equal(sample.Polygon(nil), sample.Polygon([]api.Point{})) {
		t.Error("Equal of a nil and an empty ring: false")
	}
}

// P15.3: Geoms that are as great as may be.
func TestEqualOfTheGreatest(t *testing.T) {
	list := []api.Geom{
		sample.Deep(api.MaxPoints, sample.Point()), sample.Deep(api.MaxPoints, sample.Line()), sample.Deep(api.MaxPoints-1, sample.Point()),
		sample.Line(places(api.MaxPoints - 1)...), sample.Line(places(api.MaxPoints - 2)...),
		sample.Line(append(places(api.MaxPoints-2), sample.At(0, 1))...),
		sample.Group(4, points(api.MaxPoints-1)...), sample.Group(4, append(points(api.MaxPoints-2), sample.Line())...),
	}
	differ(t, list)
	for i, g := range list {
		if !tree.Equal(tree.Copy(g), g) {
			t.Errorf("Copy of %d is another", i)
		}
	}
}

// differ holds Equal to it that of these Geoms no two are equal, but each to itself.
func differ(t *testing.T, list []api.Geom) {
	t.Helper()
	for i, a := range list {
		for j, b := range list {
			if tree.Equal(a, b) != (i == j) {
				t.Errorf("Equal of %d and %d: %t", i, j, i != j)
			}
		}
	}
}

// P15.4: the chapter's example 4, numbers of any greatness, and paths of the greatest length.
func TestFind(t *testing.T) {
	g := sample.Group(7, sample.Point(), sample.Group(4, sample.Point(sample.At(1, 1)), sample.Point(sample.At(2, 2))))
	strange := api.Geom{Kind: api.ALine, Rings: [][]api.Point{nil}, Parts: []api.Geom{{}, {Kind: 9, Parts: []api.Geom{sample.Point(lost())}}}}
	for _, c := range []struct {
		g    api.Geom
		path []int
		want api.Geom
		e    api.Errno
	}{
		{g, nil, g, api.OK},
		{g, []int{}, g, api.OK},
		{g, []int{0}, sample.Point(), api.OK},
		{g, []int{1}, g.Parts[1], api.OK},
		{g, []int{1, 0}, sample.Point(sample.At(1, 1)), api.OK},
		{g, []int{1, 1}, sample.Point(sample.At(2, 2)), api.OK},
		{strange, []int{0}, api.Geom{}, api.OK},
		{strange, []int{1, 0}, sample.Point(lost()), api.OK},
		{strange, nil, strange, api.OK},
		{sample.Deep(257, ofThree()), make([]int, 256), ofThree(), api.OK},
		{sample.Deep(300, ofThree()), make([]int, 256), sample.Deep(44, ofThree()), api.OK},
		{g, []int{2}, api.Geom{}, api.ErrPath},
		{g, []int{-1}, api.Geom{}, api.ErrPath},
		{g, []int{0, 0}, api.Geom{}, api.ErrPath},
		{g, []int{1, 2}, api.Geom{}, api.ErrPath},
		{g, []int{1, -1}, api.Geom{}, api.ErrPath},
		{g, []int{1, 0, 0}, api.Geom{}, api.ErrPath},
		{g, []int{-1, 0}, api.Geom{}, api.ErrPath},
		{g, []int{1<<63 - 1}, api.Geom{}, api.ErrPath},
		{g, []int{-1 << 63}, api.Geom{}, api.ErrPath},
		{g, []int{1 << 32}, api.Geom{}, api.ErrPath},
		{g, make([]int, 257), api.Geom{}, api.ErrPath},
		{sample.Deep(300, sample.Point()), make([]int, 257), api.Geom{}, api.ErrPath},
		{sample.Deep(256, sample.Point()), make([]int, 256), api.Geom{}, api.ErrPath},
		{circle(0), make([]int, 257), api.Geom{}, api.ErrPath},
	} {
		if got, e := tree.Find(c.g, c.path); e != c.e || !tree.Equal(got, c.want) {
			t.Errorf("Find at %d = kind %d, %d, want kind %d, %d", c.path, got.Kind, e, c.want.Kind, c.e)
		}
		got, e := tree.Put(c.g, c.path, ofThree())
		if e != c.e || e != api.OK && !tree.Equal(got, api.Geom{}) {
			t.Errorf("Put at %d = kind %d, %d, want %d", c.path, got.Kind, e, c.e)
		}
	}
}

// ofThree is a line string of three points.
func ofThree() api.Geom {
	return sample.Line(sample.At(1, 1), sample.At(2, 3), sample.At(3, 3))
}

// P15.5: the chapter's example 5; what is put need be no tree, nor need what it is put into.
func TestPut(t *testing.T) {
	wide := sample.Group(7, sample.Point(), sample.Group(4, sample.Point(sample.At(1, 1)), sample.Point()), sample.Line())
	for _, c := range []struct {
		g    api.Geom
		path []int
		part api.Geom
		want api.Geom
	}{
		{sample.Group(7, sample.Point(), sample.Point()), []int{1}, sample.Line(), sample.Group(7, sample.Point(), sample.Line())},
		{sample.Group(7, sample.Point(), sample.Point()), []int{0}, sample.Line(), sample.Group(7, sample.Line(), sample.Point())},
		{sample.Point(), nil, sample.Line(), sample.Line()},
		{sample.Point(), []int{}, ofThree(), ofThree()},
		{sample.Group(4, sample.Point()), []int{0}, sample.Line(), sample.Group(4, sample.Line())},
		{wide, []int{1, 1}, ofThree(), sample.Group(7, sample.Point(), sample.Group(4, sample.Point(sample.At(1, 1)), ofThree()), sample.Line())},
		{wide, []int{1}, api.Geom{}, sample.Group(7, sample.Point(), api.Geom{}, sample.Line())},
		{wide, nil, api.Geom{}, api.Geom{}},
		{wide, []int{2}, wide, sample.Group(7, wide.Parts[0], wide.Parts[1], wide)},
		{sample.Deep(257, sample.Point()), make([]int, 256), ofThree(), sample.Deep(257, ofThree())},
		{sample.Deep(200, sample.Point()), make([]int, 199), sample.Deep(200, ofThree()), sample.Deep(399, ofThree())},
		{api.Geom{Kind: 2, Line: ring(), Parts: points(1)}, []int{0}, sample.Point(lost()), api.Geom{Kind: 2, Line: ring(), Parts: []api.Geom{sample.Point(lost())}}},
	} {
		if got, e := tree.Put(c.g, c.path, c.part); e != api.OK || !tree.Equal(got, c.want) {
			t.Errorf("Put at %d = kind %d, %d", c.path, got.Kind, e)
		}
	}
	if got, e := tree.Put(sample.Point(), []int{0}, sample.Line()); e != api.ErrPath || !tree.Equal(got, api.Geom{}) {
		t.Errorf("Put where no part is = kind %d, %d", got.Kind, e)
	}
}

// P15.5: of two Geoms that are as great as may be, one is made that is greater.
func TestPutOfTheGreatest(t *testing.T) {
	parts := points(api.MaxPoints - 1)
	part := sample.Line(places(api.MaxPoints - 1)...)
	path := []int{len(parts) - 1}
	got, e := tree.Put(sample.Group(7, parts...), path, part)
	if e != api.OK || len(got.Parts) != len(parts) {
		t.Fatalf("Put = kind %d, %d", got.Kind, e)
	}
	for i, g := range got.Parts[:path[0]] {
		if !tree.Equal(g, sample.Point()) {
			t.Fatalf("part %d is no empty point", i)
		}
	}
	if !tree.Equal(got.Parts[path[0]], part) {
		t.Error("the part is another")
	}
	if found, e := tree.Find(got, path); e != api.OK || !tree.Equal(found, part) {
		t.Errorf("Find = kind %d, %d", found.Kind, e)
	}
	parts[path[0]] = part
	if !tree.Equal(got, sample.Group(7, parts...)) {
		t.Error("Equal of it and what it should be: false")
	}
}

// P0.1: calls of Geoms without end, or that unfold to more than any memory holds, end, and say the same again.
func TestCallsEnd(t *testing.T) {
	rings := make([][]api.Point, 60000)
	same := places(60000)
	for i := range rings {
		rings[i] = same
	}
	type all struct {
		depth, geoms, count int
		points, parts       int
		equal, self         bool
		found, put, as      api.Errno
	}
	answers := func(g api.Geom) all {
		var a all
		a.depth = tree.Depth(g)
		a.geoms, a.count = tree.Count(g)
		a.points = len(tree.Points(g))
		a.parts = len(tree.Copy(g).Parts)
		a.equal, a.self = tree.Equal(g, sample.Point()), tree.Equal(g, g)
		_, a.found = tree.Find(g, make([]int, 0))
		_, a.put = tree.Put(g, nil, g)
		_, a.as = tree.Put(sample.Group(7, sample.Point()), []int{0}, g)
		return a
	}
	for i, g := range []api.Geom{
		circle(0), circle(1), circle(100000), twofold(60, sample.Point()), twofold(300, sample.Line()), twofold(100000, sample.Line()),
		sample.Polygon(rings...), sample.Deep(1000000, sample.Point()), sample.Line(places(1000000)...),
	} {
		if one, other := answers(g), answers(g); one != other {
			t.Errorf("of Geom %d: %v, then %v", i, one, other)
		}
		if tree.Equal(g, sample.Point()) {
			t.Errorf("Geom %d is an empty point", i)
		}
	}
	long := circle(100000)
	if _, e := tree.Find(long, []int{100000, 100000, 5}); e != api.OK {
		t.Errorf("Find of a point in a circle: %d", e)
	}
}
