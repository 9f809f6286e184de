package tree_test

import (
	"reflect"
	"slices"
	"sync"
	"testing"

	"plumb/api"
	"plumb/f64"
	"plumb/sample"
	"plumb/tree"
)

// geoms are trees, and Geoms that are none.
func geoms() []api.Geom {
	out := sample.Trees()
	rule := sample.Rule(151)
	for range 300 {
		out = append(out, rule.Geom(5), broken(&rule, rule.Tree(5)))
	}
	return out
}

// broken gives a Geom with something changed in one geometry, which may make it no tree.
func broken(rule *sample.Rule, g api.Geom) api.Geom {
	g = plainCopy(g)
	at := &g
	for len(at.Parts) > 0 && rule.Below(3) > 0 {
		at = &at.Parts[rule.Below(len(at.Parts))]
	}
	switch rule.Below(5) {
	case 0:
		at.Kind = (at.Kind + 1 + rule.Below(8)) % 9
	case 1:
		at.Line = append(at.Line, sample.At(1, 1))
	case 2:
		at.Rings = append(at.Rings, rule.Places(rule.Below(2)))
	case 3:
		at.Parts = append(at.Parts, rule.Tree(2))
	case 4:
		at.Line = append(at.Line, lost())
	}
	return g
}

// plainCopy copies by the plain way: it calls itself for each part.
func plainCopy(g api.Geom) api.Geom {
	out := api.Geom{Kind: g.Kind, Line: slices.Clone(g.Line)}
	for _, ring := range g.Rings {
		out.Rings = append(out.Rings, slices.Clone(ring))
	}
	for _, part := range g.Parts {
		out.Parts = append(out.Parts, plainCopy(part))
	}
	return out
}

// plainEqual compares by the plain way.
func plainEqual(a api.Geom, b api.Geom) bool {
	return a.Kind == b.Kind && slices.Equal(a.Line, b.Line) &&
		slices.EqualFunc(a.Rings, b.Rings, func(x []api.Point, y []api.Point) bool { return slices.Equal(x, y) }) &&
		slices.EqualFunc(a.Parts, b.Parts, plainEqual)
}

// plainDepth tells the levels by the plain way.
func plainDepth(g api.Geom) int {
	depth := 0
	for _, part := range g.Parts {
		depth = max(depth, plainDepth(part))
	}
	return depth + 1
}

// plainCount counts geometries by the plain way.
func plainCount(g api.Geom) int {
	n := 1
	for _, part := range g.Parts {
		n += plainCount(part)
	}
	return n
}

// plainPoints gives the points by the plain way.
func plainPoints(g api.Geom) []api.Point {
	out := slices.Concat(g.Line, slices.Concat(g.Rings...))
	for _, part := range g.Parts {
		out = append(out, plainPoints(part)...)
	}
	return out
}

// plainCheck gives the number of the first wrong geometry and its error, by the plain way; ahead of g stand so many. It
// looks at no limit.
func plainCheck(g api.Geom, home int, ahead int) (int, api.Errno) {
	strange := func(p api.Point) bool {
		return f64.Class(p.X) > api.Normal || f64.Class(p.Y) > api.Normal
	}
	empty := func(ring []api.Point) bool { return len(ring) == 0 }
	switch {
	case g.Kind < 1 || g.Kind > 7,
		g.Kind > api.ALine && len(g.Line) > 0,
		g.Kind != api.APolygon && len(g.Rings) > 0,
		g.Kind <= api.APolygon && len(g.Parts) > 0,
		g.Kind == api.APoint && len(g.Line) > 1,
		slices.ContainsFunc(g.Rings, empty),
		home >= api.Points && home < api.Collection && g.Kind != home-3:
		return ahead, api.ErrShape
	case slices.ContainsFunc(g.Line, strange), slices.ContainsFunc(slices.Concat(g.Rings...), strange):
		return ahead, api.ErrNumber
	}
	ahead++
	for _, part := range g.Parts {
		at, e := plainCheck(part, g.Kind, ahead)
		if e != api.OK {
			return at, e
		}
		ahead += plainCount(part)
	}
	return 0, api.OK
}

// plainFlat lays a tree flat by the plain way.
func plainFlat(g api.Geom) []api.Node {
	n := api.Node{Kind: g.Kind, Sizes: []int{len(g.Line) + len(g.Parts)}, Line: slices.Concat(g.Line, slices.Concat(g.Rings...))}
	if g.Kind == api.APolygon {
		n.Sizes = nil
		for _, ring := range g.Rings {
			n.Sizes = append(n.Sizes, len(ring))
		}
	}
	out := []api.Node{n}
	for _, part := range g.Parts {
		out = append(out, plainFlat(part)...)
	}
	return out
}

// paths gives the paths to all geometries, in the order of the text.
func paths(g api.Geom) [][]int {
	out := [][]int{nil}
	for i, part := range g.Parts {
		for _, path := range paths(part) {
			out = append(out, slices.Concat([]int{i}, path))
		}
	}
	return out
}

// P15.1, P15.6: the same fault as by the plain way; both errors and none come.
func TestCheckIsThePlainOne(t *testing.T) {
	seen := map[api.Errno]int{}
	for _, g := range geoms() {
		at, e := plainCheck(g, 0, 0)
		seen[e]++
		err := tree.Check(g)
		if e == api.OK && err != nil || e != api.OK && !isFault(err, at, e) {
			t.Errorf("Check of %v: %v, want %d at %d", g, err, e, at)
		}
		l, err := tree.Flat(g)
		if e == api.OK && (err != nil || !sameNodes(l, plainFlat(g))) || e != api.OK && (len(l) != 0 || !isFault(err, at, e)) {
			t.Errorf("Flat of %v = %v, %v", g, l, err)
		}
	}
	if seen[api.OK] < 300 || seen[api.ErrShape] < 100 || seen[api.ErrNumber] < 20 {
		t.Errorf("too few of a kind: %v", seen)
	}
}

// P15.2: of any Geom the same as by the plain way.
func TestToldIsThePlainOne(t *testing.T) {
	for _, g := range geoms() {
		if got := tree.Depth(g); got != plainDepth(g) {
			t.Errorf("Depth of %v = %d, want %d", g, got, plainDepth(g))
		}
		if n, p := tree.Count(g); n != plainCount(g) || p != len(plainPoints(g)) {
			t.Errorf("Count of %v = %d, %d", g, n, p)
		}
		if got := tree.Points(g); !slices.Equal(got, plainPoints(g)) {
			t.Errorf("Points of %v = %v", g, got)
		}
	}
}

// P15.3: of any two Geoms the same as by the plain way, of such as differ in one place alone too.
func TestEqualIsThePlainOne(t *testing.T) {
	list := geoms()
	rule := sample.Rule(153)
	for i, a := range list {
		if got := tree.Copy(a); !tree.Equal(a, got) || !plainEqual(a, got) {
			t.Errorf("Copy of %v = %v", a, got)
		}
		b := broken(&rule, a)
		if got := tree.Equal(a, b); got != plainEqual(a, b) || got {
			t.Errorf("Equal of %v and %v: %t", a, b, got)
		}
		for _, b := range list[i:min(i+40, len(list))] {
			if got := tree.Equal(a, b); got != plainEqual(a, b) || got != tree.Equal(b, a) {
				t.Errorf("Equal of %v and %v: %t", a, b, got)
			}
		}
	}
}

// P15.4, P15.5, P15.8: at every path of any Geom: what Find finds, what Put puts, and what it leaves.
func TestPathsOfAll(t *testing.T) {
	part := ofThree()
	for _, g := range geoms() {
		all := paths(g)
		for _, path := range all {
			if len(path) > 8 && len(path) < 250 {
				continue
			}
			want := g
			for _, i := range path {
				want = want.Parts[i]
			}
			found, e := tree.Find(g, path)
			if e != api.OK || !plainEqual(found, want) {
				t.Fatalf("Find(%v, %d) = %v, %d", g, path, found, e)
			}
			if back, e := tree.Put(g, path, found); e != api.OK || !plainEqual(back, g) {
				t.Fatalf("Put of what is found in %v at %d = %v, %d", g, path, back, e)
			}
			put, e := tree.Put(g, path, part)
			if again, f := tree.Find(put, path); e != api.OK || f != api.OK || !plainEqual(again, part) {
				t.Fatalf("Put(%v, %d) = %v, %d", g, path, put, e)
			}
			leaves(t, g, put, path)
			for _, i := range []int{-1, len(want.Parts)} {
				if _, e := tree.Find(g, append(slices.Clone(path), i)); e != api.ErrPath {
					t.Fatalf("Find(%v, %d and %d): %d", g, path, i, e)
				}
			}
		}
	}
}

// leaves holds what Put answered to what was there beside the path.
func leaves(t *testing.T, g api.Geom, put api.Geom, path []int) {
	t.Helper()
	for _, i := range path {
		same := put.Kind == g.Kind && slices.Equal(put.Line, g.Line) && len(put.Parts) == len(g.Parts) && len(put.Rings) == len(g.Rings)
		for k := range g.Parts {
			same = same && (k == i || plainEqual(put.Parts[k], g.Parts[k]))
		}
		if !same {
			t.Fatalf("Put at %d made %v of %v", path, put, g)
		}
		g, put = g.Parts[i], put.Parts[i]
	}
}

// P15.7, P15.8: there and back; as many geometries as nodes; Equal is the sameness of nodes.
func TestFlatAndGrowAreThereAndBack(t *testing.T) {
	list := sample.Trees()
	for i, g := range list {
		l, err := tree.Flat(g)
		if err != nil {
			t.Fatalf("Flat of %v: %v", g, err)
		}
		if n, p := tree.Count(g); n != len(l) || p != pointsOf(l) {
			t.Errorf("Count of %v = %d, %d; nodes: %d", g, n, p, len(l))
		}
		back, err := tree.Grow(l)
		if err != nil || !plainEqual(back, g) {
			t.Errorf("Grow of the nodes of %v = %v, %v", g, back, err)
		}
		if again, err := tree.Flat(back); err != nil || !sameNodes(again, l) {
			t.Errorf("Flat of what grew of %v: %v, %v", l, again, err)
		}
		for _, h := range list[i:min(i+40, len(list))] {
			m, _ := tree.Flat(h)
			if tree.Equal(g, h) != sameNodes(l, m) {
				t.Errorf("Equal of %v and %v: %t", g, h, tree.Equal(g, h))
			}
		}
	}
}

// pointsOf tells how many points nodes have.
func pointsOf(l []api.Node) int {
	n := 0
	for _, node := range l {
		n += len(node.Line)
	}
	return n
}

// P15.7, P15.8: nodes by a rule, most of them no tree: what grows has just these nodes, and each error is one of its own.
func TestGrowOfAnyNodes(t *testing.T) {
	rule := sample.Rule(157)
	seen := map[api.Errno]int{}
	for range 30000 {
		l := make([]api.Node, rule.Below(6))
		for i := range l {
			l[i] = anyNode(&rule)
		}
		g, err := tree.Grow(l)
		seen[api.Code(err)]++
		if err != nil {
			if at := api.Place(err); at < 0 || at > len(l) || !plainEqual(g, api.Geom{}) {
				t.Fatalf("Grow(%v) = %v, %v", l, g, err)
			}
			continue
		}
		if _, e := plainCheck(g, 0, 0); e != api.OK {
			t.Fatalf("Grow(%v) = %v, which is no tree", l, g)
		}
		if back, err := tree.Flat(g); err != nil || !sameNodes(back, l) {
			t.Fatalf("Grow(%v) = %v, of which the nodes are %v, %v", l, g, back, err)
		}
	}
	if seen[api.OK] < 500 || seen[api.ErrNodes] < 500 || seen[api.ErrShape] < 100 {
		t.Errorf("too few of a kind: %v", seen)
	}
}

// anyNode gives a node of the row that is mostly right by itself.
func anyNode(rule *sample.Rule) api.Node {
	n := api.Node{Kind: 1 + rule.Below(7), Sizes: []int{rule.Below(3)}}
	if n.Kind <= api.APolygon {
		n.Line = rule.Places(n.Sizes[0])
	}
	if rule.Below(20) == 0 {
		n.Sizes = append(n.Sizes, rule.Below(2))
	}
	if rule.Below(30) == 0 {
		n.Kind = rule.Below(9)
	}
	return n
}

// firstPath gives the path to the last part of the first part and so on, of a few steps at most.
func firstPath(g api.Geom) []int {
	var out []int
	for len(g.Parts) > 0 && len(out) < 3 {
		i := (len(g.Parts) - 1) * (len(out) % 2)
		out = append(out, i)
		g = g.Parts[i]
	}
	return out
}

// P15.9: what is handed in stays as it is with its spare room, and every list of an answer stands apart from it and from
// every other, with its spare room.
func TestMemory(t *testing.T) {
	part := sample.RoomyGeom(sample.Group(7, sample.Polygon(ring(), ring()), ofThree()))
	for _, plain := range geoms() {
		g := sample.RoomyGeom(plain)
		l := sample.RoomyNodes(plainFlat(plain))
		path := sample.Roomy(firstPath(plain), 5)
		before, nodesBefore, partBefore := sample.WholeGeom(g), sample.WholeNodes(l), sample.WholeGeom(part)
		pathBefore := slices.Clone(path[:cap(path)])
		ground := sample.NewGround()
		if !ground.Geom(g) || !ground.Geom(part) || !ground.Nodes(l) {
			t.Fatal("what is handed in shares memory")
		}
		found, e := tree.Find(g, path)
		put, f := tree.Put(g, path, part)
		root, h := tree.Put(g, nil, part)
		if e != api.OK || f != api.OK || h != api.OK {
			t.Fatalf("refused at %d: %d, %d, %d", path, e, f, h)
		}
		grown, _ := tree.Grow(l)
		flat, _ := tree.Flat(g)
		for i, answer := range []api.Geom{tree.Copy(g), tree.Copy(g), found, put, root, grown} {
			if !ground.Geom(answer) {
				t.Errorf("answer %d of %v shares memory", i, plain)
			}
		}
		again, _ := tree.Flat(g)
		if !ground.Nodes(flat) || !ground.Nodes(again) || !ground.Points(tree.Points(g)) || !ground.Points(tree.Points(g)) {
			t.Errorf("nodes or points of %v share memory", plain)
		}
		tree.Check(g)
		tree.Depth(g)
		tree.Count(g)
		tree.Equal(g, part)
		if !plainEqual(sample.WholeGeom(g), before) || !plainEqual(sample.WholeGeom(part), partBefore) || !sameNodes(sample.WholeNodes(l), nodesBefore) {
			t.Errorf("%v is changed", plain)
		}
		if !slices.Equal(path[:cap(path)], pathBefore) {
			t.Errorf("the path %d is changed: %d", pathBefore, path[:cap(path)])
		}
	}
}

// P15.9: parts, rings and nodes that share memory in what is handed in stand apart in what is answered.
func TestMemoryThatIsShared(t *testing.T) {
	area := sample.Polygon(ring())
	area.Rings = append(area.Rings, area.Rings[0], area.Rings[0][:3])
	twice := sample.Group(7, area, sample.Group(7, area, area), sample.Group(7, area, area))
	twice.Parts[2].Parts = twice.Parts[1].Parts
	sizes, line := []int{2, 2}, ring()
	same := []api.Node{{Kind: 7, Sizes: sizes[:1]}, {Kind: 3, Sizes: sizes, Line: line}, {Kind: 3, Sizes: sizes, Line: line}}
	put, e := tree.Put(twice, []int{1, 0}, twice)
	found, f := tree.Find(twice, []int{1})
	grown, err := tree.Grow(same)
	flat, bad := tree.Flat(twice)
	if e != api.OK || f != api.OK || err != nil || bad != nil {
		t.Fatalf("refused: %d, %d, %v, %v", e, f, err, bad)
	}
	if !plainEqual(put.Parts[1].Parts[0], twice) || !plainEqual(put.Parts[2], twice.Parts[2]) {
		t.Error("Put of a tree into itself is another")
	}
	ground := sample.NewGround()
	for i, answer := range []api.Geom{tree.Copy(twice), put, found, grown} {
		if !ground.Geom(answer) {
			t.Errorf("answer %d shares memory", i)
		}
	}
	if !ground.Nodes(flat) {
		t.Error("nodes share memory")
	}
}

// P15.9, P0.2: an answer that is written over, or appended to, changes no later one; many may ask at once.
func TestNothingIsKept(t *testing.T) {
	type answers struct {
		Copy, Found, Put, Grown api.Geom
		Nodes                   []api.Node
		Points                  []api.Point
	}
	ask := func(g api.Geom) answers {
		var a answers
		a.Copy = tree.Copy(g)
		a.Found, _ = tree.Find(g, nil)
		a.Put, _ = tree.Put(g, nil, g)
		a.Nodes, _ = tree.Flat(g)
		a.Grown, _ = tree.Grow(a.Nodes)
		a.Points = tree.Points(g)
		return a
	}
	list := sample.Trees()
	want := make([]answers, len(list))
	for i, g := range list {
		want[i] = ask(g)
	}
	var all sync.WaitGroup
	for from := range 4 {
		all.Go(func() {
			for i := len(list) - 1 - from; i >= 0; i -= 2 {
				got := ask(list[i])
				if !reflect.DeepEqual(got, want[i]) {
					t.Errorf("of %v: %v the second time, %v the first", list[i], got, want[i])
				}
				spoil(got.Copy)
				spoil(got.Put)
				spoil(got.Grown)
				clear(got.Points[:cap(got.Points)])
				clear(got.Nodes[:cap(got.Nodes)])
			}
		})
	}
	all.Wait()
}

// spoil writes over all lists of a Geom and their spare room.
func spoil(g api.Geom) {
	for _, part := range g.Parts {
		spoil(part)
	}
	for _, ring := range g.Rings {
		clear(ring[:cap(ring)])
	}
	clear(g.Line[:cap(g.Line)])
	clear(g.Rings[:cap(g.Rings)])
	clear(g.Parts[:cap(g.Parts)])
}
