package tree_test

import (
	"math"
	"slices"
	"testing"

	"plumb/api"
	"plumb/sample"
	"plumb/tree"
)

// sameNodes tells whether nodes are the same, list by list.
func sameNodes(a []api.Node, b []api.Node) bool {
	return slices.EqualFunc(a, b, func(x api.Node, y api.Node) bool {
		return x.Kind == y.Kind && slices.Equal(x.Sizes, y.Sizes) && slices.Equal(x.Line, y.Line)
	})
}

// P15.6, P15.7: the chapter's example 6, both ways.
func TestFlatAndGrow(t *testing.T) {
	at := sample.At
	four := []api.Point{at(0, 0), at(1, 0), at(0, 0), at(2, 2)}
	for i, c := range []struct {
		g api.Geom
		l []api.Node
	}{
		{sample.Point(at(1, 2)), []api.Node{{Kind: 1, Sizes: []int{1}, Line: []api.Point{at(1, 2)}}}},
		{sample.Point(), []api.Node{{Kind: 1, Sizes: []int{0}}}},
		{sample.Line(), []api.Node{{Kind: 2, Sizes: []int{0}}}},
		{ofThree(), []api.Node{{Kind: 2, Sizes: []int{3}, Line: ofThree().Line}}},
		{sample.Polygon(four[:3], four[3:]), []api.Node{{Kind: 3, Sizes: []int{3, 1}, Line: four}}},
		{sample.Polygon(four[:1], four[1:]), []api.Node{{Kind: 3, Sizes: []int{1, 3}, Line: four}}},
		{sample.Polygon(), []api.Node{{Kind: 3}}},
		{sample.Group(4), []api.Node{{Kind: 4, Sizes: []int{0}}}},
		{sample.Group(7, sample.Line(at(0, 0)), sample.Group(7)), []api.Node{
			{Kind: 7, Sizes: []int{2}}, {Kind: 2, Sizes: []int{1}, Line: []api.Point{at(0, 0)}}, {Kind: 7, Sizes: []int{0}},
		}},
		{sample.Group(7, sample.Group(4, sample.Point(at(1, 1)), sample.Point()), sample.Group(6, sample.Polygon(four)), sample.Line()), []api.Node{
			{Kind: 7, Sizes: []int{3}}, {Kind: 4, Sizes: []int{2}}, {Kind: 1, Sizes: []int{1}, Line: []api.Point{at(1, 1)}},
			{Kind: 1, Sizes: []int{0}}, {Kind: 6, Sizes: []int{1}}, {Kind: 3, Sizes: []int{4}, Line: four}, {Kind: 2, Sizes: []int{0}},
		}},
	} {
		if l, err := tree.Flat(c.g); err != nil || !sameNodes(l, c.l) {
			t.Errorf("Flat of %d = %v, %v, want %v", i, l, err, c.l)
		}
		if g, err := tree.Grow(c.l); err != nil || !tree.Equal(g, c.g) {
			t.Errorf("Grow of %d = %v, %v, want %v", i, g, err, c.g)
		}
	}
}

// refuses holds Grow to an error, beside which there is no tree.
func refuses(t *testing.T, l []api.Node, at int, code api.Errno) {
	t.Helper()
	g, err := tree.Grow(l)
	if !isFault(err, at, code) || !tree.Equal(g, api.Geom{}) {
		t.Errorf("Grow of %d nodes, %.200v = kind %d, %v, want %d at %d", len(l), l[:min(len(l), 4)], g.Kind, err, code, at)
	}
}

// badNodes are nodes that are wrong by themselves.
func badNodes() []api.Node {
	two := ring()[:2]
	out := []api.Node{
		{}, {Kind: 1}, {Kind: 2}, {Kind: 4}, {Kind: 7},
		{Kind: 1, Line: two[:1]}, {Kind: 1, Sizes: []int{0, 0}}, {Kind: 1, Sizes: []int{1, 0}, Line: two[:1]},
		{Kind: 2, Sizes: []int{1}}, {Kind: 2, Sizes: []int{-1}}, {Kind: 2, Sizes: []int{1}, Line: two}, {Kind: 2, Sizes: []int{3}, Line: two},
		{Kind: 2, Sizes: []int{0}, Line: two}, {Kind: 2, Sizes: []int{1, 1}, Line: two}, {Kind: 2, Sizes: []int{math.MinInt}},
		{Kind: 2, Sizes: []int{math.MaxInt}, Line: two},
		{Kind: 3, Line: two}, {Kind: 3, Sizes: []int{1}, Line: two}, {Kind: 3, Sizes: []int{1, 2}, Line: two}, {Kind: 3, Sizes: []int{3, -1}, Line: two},
		{Kind: 3, Sizes: []int{-1, 3}, Line: two}, {Kind: 3, Sizes: []int{-1}}, {Kind: 3, Sizes: []int{1}}, {Kind: 3, Sizes: []int{2, -1}, Line: two},
		{Kind: 3, Sizes: []int{math.MaxInt, math.MaxInt, 4}, Line: two}, {Kind: 3, Sizes: []int{math.MaxInt, math.MinInt, 3}, Line: two},
		{Kind: 3, Sizes: []int{math.MinInt, math.MinInt, 2}, Line: two}, {Kind: 3, Sizes: []int{2, math.MinInt, math.MinInt}, Line: two},
		{Kind: 4, Sizes: []int{0}, Line: two[:1]}, {Kind: 4, Sizes: []int{1}, Line: two[:1]}, {Kind: 7, Sizes: []int{2}, Line: two},
		{Kind: 4, Sizes: []int{-1}}, {Kind: 7, Sizes: []int{-1}}, {Kind: 7, Sizes: []int{math.MinInt}},
		{Kind: 5, Sizes: []int{0, 0}}, {Kind: 6, Sizes: []int{0, 0}}, {Kind: 7, Sizes: []int{1, -1}},
	}
	for _, kind := range []int{0, -1, 8, 9, 1 << 32, 1<<32 + 7, math.MinInt, math.MaxInt} {
		out = append(out, api.Node{Kind: kind, Sizes: []int{0}}, api.Node{Kind: kind}, api.Node{Kind: kind, Sizes: []int{2}, Line: two})
	}
	return out
}

// P15.7: a node that is wrong by itself, as the first, in the middle, at the end, behind the end, ahead of other wrong ones.
func TestGrowRefusesANode(t *testing.T) {
	point := api.Node{Kind: 1, Sizes: []int{0}}
	of := func(n int) api.Node { return api.Node{Kind: 7, Sizes: []int{n}} }
	for _, bad := range badNodes() {
		refuses(t, []api.Node{bad}, 0, api.ErrNodes)
		refuses(t, []api.Node{bad, point}, 0, api.ErrNodes)
		refuses(t, []api.Node{bad, bad}, 0, api.ErrNodes)
		refuses(t, []api.Node{of(2), bad, point}, 1, api.ErrNodes)
		refuses(t, []api.Node{of(2), point, bad}, 2, api.ErrNodes)
		refuses(t, []api.Node{of(2), point, bad, point}, 2, api.ErrNodes)
		refuses(t, []api.Node{of(1), point, bad}, 2, api.ErrNodes)
		refuses(t, []api.Node{of(math.MaxInt), point, bad}, 2, api.ErrNodes)
		refuses(t, []api.Node{of(9), of(0), point, bad, bad}, 3, api.ErrNodes)
	}
}

// P15.7: too few nodes and too many, counts of any greatness.
func TestGrowRefusesANumber(t *testing.T) {
	point := api.Node{Kind: 1, Sizes: []int{0}}
	of := func(n int) api.Node { return api.Node{Kind: 7, Sizes: []int{n}} }
	const huge = math.MaxInt
	for _, c := range []struct {
		l  []api.Node
		at int
	}{
		{nil, 0},
		{[]api.Node{}, 0},
		{[]api.Node{of(1)}, 1},
		{[]api.Node{of(2), point}, 2},
		{[]api.Node{of(0), point}, 1},
		{[]api.Node{point, point}, 1},
		{[]api.Node{point, point, point}, 1},
		{[]api.Node{of(1), of(1), of(1)}, 3},
		{[]api.Node{of(2), of(1), point}, 3},
		{[]api.Node{of(2), of(1), point, point, point}, 4},
		{[]api.Node{of(2), of(1), point, point, of(7), point}, 4},
		{[]api.Node{of(huge)}, 1},
		{[]api.Node{of(huge), of(huge)}, 2},
		{[]api.Node{of(huge), of(huge), of(huge), point}, 4},
		{[]api.Node{of(huge), point, of(0), of(huge - 1), of(1)}, 5},
		{[]api.Node{of(1), of(huge), of(0)}, 3},
		{[]api.Node{of(2), of(huge), of(1<<62 + 1), point}, 4},
		{[]api.Node{of(2), {Kind: 3}, {Kind: 3}, {Kind: 3}}, 3},
	} {
		refuses(t, c.l, c.at, api.ErrNodes)
	}
}

// P15.7: nodes that are right as nodes, but make no tree; and those that are wrong as nodes somewhere behind.
func TestGrowRefusesWhatIsNoTree(t *testing.T) {
	of := func(kind int, n int) api.Node { return api.Node{Kind: kind, Sizes: []int{n}} }
	line := func(l ...api.Point) api.Node { return api.Node{Kind: 2, Sizes: []int{len(l)}, Line: l} }
	chain := slices.Repeat([]api.Node{of(7, 1)}, 100000)
	chain[len(chain)-1] = of(7, 0)
	wide := slices.Repeat([]api.Node{of(1, 0)}, api.MaxPoints+10)
	wide[0] = of(7, len(wide)-1)
	same := slices.Repeat([]api.Node{line(places(60000)...)}, 60000)
	same[0] = of(5, len(same)-1)
	for _, c := range []struct {
		l    []api.Node
		at   int
		code api.Errno
	}{
		{[]api.Node{{Kind: 1, Sizes: []int{2}, Line: ring()[:2]}}, 0, api.ErrShape},
		{[]api.Node{{Kind: 3, Sizes: []int{0}}}, 0, api.ErrShape},
		{[]api.Node{{Kind: 3, Sizes: []int{0, 4}, Line: ring()}}, 0, api.ErrShape},
		{[]api.Node{{Kind: 3, Sizes: []int{4, 0}, Line: ring()}}, 0, api.ErrShape},
		{[]api.Node{of(4, 1), of(2, 0)}, 1, api.ErrShape},
		{[]api.Node{of(5, 2), of(2, 0), of(1, 0)}, 2, api.ErrShape},
		{[]api.Node{of(6, 1), of(6, 0)}, 1, api.ErrShape},
		{[]api.Node{of(7, 2), line(lost()), of(2, 0)}, 1, api.ErrNumber},
		{[]api.Node{line(places(api.MaxPoints)...)}, 0, api.ErrMany},
		{[]api.Node{line(append(places(api.MaxPoints), lost())...)}, 0, api.ErrMany},
		{chain, 256, api.ErrDeep},
		{wide, api.MaxPoints, api.ErrMany},
		{same, 2, api.ErrMany},
		{append(slices.Clone(chain), of(7, 0)), len(chain), api.ErrNodes},
		{[]api.Node{of(4, 1), of(2, 0), of(1, 0)}, 2, api.ErrNodes},
		{[]api.Node{of(4, 2), of(2, 0)}, 2, api.ErrNodes},
		{[]api.Node{of(7, 2), line(lost()), of(8, 0)}, 2, api.ErrNodes},
	} {
		refuses(t, c.l, c.at, c.code)
	}
	chain = append(slices.Repeat([]api.Node{of(7, 1)}, api.MaxDepth-1), line(ring()...))
	if g, err := tree.Grow(chain); err != nil || !tree.Equal(g, sample.Deep(api.MaxDepth, sample.Line(ring()...))) {
		t.Errorf("Grow of 256 levels: %v", err)
	}
	wide[0] = of(4, api.MaxPoints-1)
	if g, err := tree.Grow(wide[:api.MaxPoints]); err != nil || len(g.Parts) != api.MaxPoints-1 {
		t.Errorf("Grow of 65536 geometries: %v", err)
	}
}
