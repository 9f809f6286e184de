package valid_test

import (
	"math"
	"slices"
	"sync"
	"testing"

	"plumb/api"
	"plumb/pred"
	"plumb/sample"
	"plumb/tree"
	"plumb/valid"
)

// ask gives All's answer, and fails if it is not what the words say, or if Check's isn't the first flaw of it.
func ask(t *testing.T, g api.Geom) []api.Flaw {
	t.Helper()
	want := plainAll(g)
	got, e := valid.All(g)
	if e != api.OK || !slices.EqualFunc(got, want, equal) {
		t.Fatalf("P25.1: All(%x) = %v, %d, want %v", g, got, e, want)
	}
	if f, e := valid.Check(g); e != api.OK || !equal(f, plainFirst(want)) {
		t.Fatalf("P25.4: Check(%x) = %v, %d, want %v", g, f, e, plainFirst(want))
	}
	return got
}

// P25.3: as the words say, of any points.
func TestRingsAsTheWordsSay(t *testing.T) {
	rule := sample.Rule(253)
	var kinds [11]int
	var later int
	for range 4000 {
		r := lineOf(&rule, 1+rule.Below(8))
		switch rule.Below(12) {
		case 0, 1, 2: // one that mostly meets itself nowhere
			r = frameOf(&rule).laid(&rule, hump(knots(&rule, 3+rule.Below(6), 6)))
		case 3:
			r = rule.OtherZeros(slices.Repeat(r[:1], 2+rule.Below(5)))
		}
		f := ask(t, sample.Polygon(r))[0]
		kinds[f.Kind]++
		if f.Kind == api.FlawSelf && f.Spot > 0 {
			later++
		}
	}
	if min(kinds[0], kinds[api.FlawFew], kinds[api.FlawOpen], kinds[api.FlawTwice], kinds[api.FlawSelf], later) < 100 {
		t.Errorf("too few of a kind: %d, %d not at the first stretch", kinds, later)
	}
}

// P25.2: as the words say, of a few rings that often touch.
func TestPolygonsAsTheWordsSay(t *testing.T) {
	rule := sample.Rule(252)
	var kinds [11]int
	for range 800 {
		kinds[ask(t, polygonOf(&rule, frameOf(&rule), 2+rule.Below(4)))[0].Kind]++
	}
	few := min(kinds[api.FlawFew], kinds[api.FlawOpen], kinds[api.FlawTwice])
	if min(kinds[0], kinds[api.FlawCross], kinds[api.FlawOutside], kinds[api.FlawNested], kinds[api.FlawCut], 2*few) < 20 {
		t.Errorf("too few of a kind: %d", kinds)
	}
}

// P25.2: as the words say, of polygons that often touch.
func TestMultiPolygonsAsTheWordsSay(t *testing.T) {
	rule := sample.Rule(2521)
	var sound, overlap, flawed int
	for range 500 {
		l := ask(t, polygonsOf(&rule, frameOf(&rule), 2+rule.Below(2)))
		switch {
		case l[0].Kind != 0:
			overlap++
		case plainFirst(l).Kind != 0:
			flawed++
		default:
			sound++
		}
	}
	if min(sound, overlap, flawed) < 50 {
		t.Errorf("too few of a kind: %d sound, %d overlap, %d have parts with flaws", sound, overlap, flawed)
	}
}

// treeOf gives a tree of all kinds of the row.
func treeOf(rule *sample.Rule, levels int) api.Geom {
	f := frameOf(rule)
	switch n := rule.Below(7); {
	case n < 2 && levels > 1:
		out := api.Geom{Kind: api.Collection}
		for range rule.Below(4) {
			out.Parts = append(out.Parts, treeOf(rule, levels-1))
		}
		return out
	case n < 3:
		return polygonOf(rule, f, 1+rule.Below(3))
	case n < 4:
		return polygonsOf(rule, f, rule.Below(3))
	case n < 5:
		return sample.Group(api.Lines, sample.Line(lineOf(rule, rule.Below(3))...), sample.Line(lineOf(rule, rule.Below(3))...))
	case n < 6:
		return sample.Line(lineOf(rule, rule.Below(3))...)
	}
	return rule.Tree(3)
}

// P25.1, P25.4, P25.7: all geometries of a tree, each as it would be alone; without a flaw just if all parts are and
// there is none of its own.
func TestTreesAsTheWordsSay(t *testing.T) {
	rule := sample.Rule(2511)
	var sound, flawed int
	for _, g := range sample.Trees() {
		ask(t, g)
	}
	for range 400 {
		g := treeOf(&rule, 4)
		l := ask(t, g)
		clean := l[0].Kind == 0
		next := 1
		for i, part := range g.Parts {
			alone, _ := valid.All(part)
			for _, f := range alone {
				f.Path = append([]int{i}, f.Path...)
				if !equal(l[next], f) {
					t.Fatalf("P25.7: of %x: %v, of its part %d alone: %v", g, l, i, alone)
				}
				next++
			}
			f, _ := valid.Check(part)
			clean = clean && f.Kind == 0
		}
		if f, _ := valid.Check(g); clean != (f.Kind == 0) || next != len(l) {
			t.Fatalf("P25.7: of %x: %v", g, l)
		}
		if clean {
			sound++
		} else {
			flawed++
		}
	}
	if min(sound, flawed) < 100 {
		t.Errorf("too few of a kind: %d sound, %d not", sound, flawed)
	}
}

// P25.6: as the words say.
func TestSimpleAsTheWordsSay(t *testing.T) {
	rule := sample.Rule(256)
	var simple, closed, not int
	for range 4000 {
		l := lineOf(&rule, rule.Below(7))
		if rule.Below(4) == 0 {
			l = frameOf(&rule).laid(&rule, hump(knots(&rule, 3+rule.Below(4), 4)))
		}
		_, found := plainTangle(l)
		if got, e := valid.Simple(l); got == found || e != api.OK {
			t.Fatalf("P25.6: Simple(%x) = %t, %d", l, got, e)
		}
		switch {
		case found:
			not++
		case len(pieces(l)) > 2 && same(l[0], l[len(l)-1]):
			closed++
		default:
			simple++
		}
	}
	if min(simple, closed, not) < 400 {
		t.Errorf("too few of a kind: %d, %d closed, %d not", simple, closed, not)
	}
}

// changed gives a Geom in memory of its own, with each list of points as a function gives it.
func changed(g api.Geom, by func([]api.Point) []api.Point) api.Geom {
	out := api.Geom{Kind: g.Kind, Line: by(g.Line)}
	for _, r := range g.Rings {
		out.Rings = append(out.Rings, by(r))
	}
	for _, part := range g.Parts {
		out.Parts = append(out.Parts, changed(part, by))
	}
	return out
}

// each gives the function that changes every point.
func each(by func(api.Point) api.Point) func([]api.Point) []api.Point {
	return func(l []api.Point) []api.Point {
		out := slices.Clone(l)
		for i, p := range l {
			out[i] = by(p)
		}
		return out
	}
}

// P25.7: what hangs on places stays when all is scaled by a power of two, when X and Y are changed about, and with other
// zeros; but for the place that is told.
func TestFromAllSides(t *testing.T) {
	rule := sample.Rule(257)
	for range 500 {
		f := frame{1, 0.75, rule.Below(3), false}
		g := polygonOf(&rule, f, 1+rule.Below(4))
		if rule.Below(2) == 0 {
			g = polygonsOf(&rule, f, 2+rule.Below(2))
		}
		want, _ := valid.All(g)
		power := rule.Below(2080) - 1065
		scale := func(b uint64) uint64 { return math.Float64bits(math.Ldexp(math.Float64frombits(b), power)) }
		scaled := func(p api.Point) api.Point { return api.Point{X: scale(p.X), Y: scale(p.Y)} }
		about := func(p api.Point) api.Point { return api.Point{X: p.Y, Y: p.X} }
		stays := func(p api.Point) api.Point { return p }
		for _, by := range []func(api.Point) api.Point{scaled, about, stays} {
			h := changed(g, each(by))
			got, e := valid.All(h)
			for i := range want {
				w := want[i]
				w.Where = by(w.Where)
				if e != api.OK || len(got) != len(want) || !equal(got[i], w) {
					t.Fatalf("P25.7: All(%x) = %v, of %x: %v, %d", g, want, h, got, e)
				}
			}
			h = changed(h, rule.OtherZeros)
			again, _ := valid.All(h)
			if !slices.EqualFunc(again, got, equalKind) {
				t.Fatalf("P25.7: All(%x) = %v, with other zeros, %x: %v", g, want, h, again)
			}
		}
	}
}

// equalKind tells whether two flaws are the same but for the stretch of FlawSelf and the place.
func equalKind(f, g api.Flaw) bool {
	f.Where, g.Where = api.Point{}, api.Point{}
	if f.Kind == api.FlawSelf {
		f.Spot, g.Spot = 0, 0
	}
	return equal(f, g)
}

// P25.7: rings turned round, and closed ones begun elsewhere.
func TestRingsTurnedAndBegunElsewhere(t *testing.T) {
	rule := sample.Rule(2571)
	turned := func(r []api.Point) []api.Point {
		r = slices.Clone(r)
		slices.Reverse(r)
		return r
	}
	begun := func(r []api.Point) []api.Point {
		n := len(r) - 1
		if n < 1 || !same(r[0], r[n]) {
			return r
		}
		i := rule.Below(n)
		return slices.Concat(r[i:n], r[:i], r[i:i+1])
	}
	var flawed int
	for range 700 {
		f := frameOf(&rule)
		g := polygonOf(&rule, f, 1+rule.Below(4))
		if rule.Below(3) == 0 {
			g = polygonsOf(&rule, f, 2+rule.Below(2))
		}
		want, _ := valid.All(g)
		if plainFirst(want).Kind != 0 {
			flawed++
		}
		for _, by := range []func([]api.Point) []api.Point{turned, begun, func(r []api.Point) []api.Point { return turned(begun(r)) }} {
			h := changed(g, by)
			if got, e := valid.All(h); e != api.OK || !slices.EqualFunc(got, want, equalKind) {
				t.Fatalf("P25.7: All(%x) = %v, of %x: %v, %d", g, want, h, got, e)
			}
		}
	}
	if flawed < 200 || flawed > 600 {
		t.Errorf("too many or too few with flaws: %d of 700", flawed)
	}
}

// P25.7: a hull, closed, has no flaw, up to 511 corners.
func TestHulls(t *testing.T) {
	rule := sample.Rule(2572)
	var full int
	check := func(l []api.Point) {
		hull, e := pred.Hull(l)
		if e != api.OK {
			t.Fatalf("P25.7: Hull(%x): %d", l, e)
		}
		if len(hull) < 3 {
			return
		}
		full++
		g := sample.Polygon(append(hull, hull[0]))
		if f, e := valid.Check(g); e != api.OK || !equal(f, api.Flaw{}) {
			t.Fatalf("P25.7: Check of the hull %x: %v, %d", hull, f, e)
		}
		if simple, e := valid.Simple(g.Rings[0]); !simple || e != api.OK {
			t.Fatalf("P25.6: Simple of the hull %x: %t, %d", hull, simple, e)
		}
	}
	for range 1000 {
		check(rule.Crowd(3 + rule.Below(12)))
	}
	check(rule.Row(3000))
	var bowl []api.Point
	for i := range api.MaxRing - 1 {
		v := float64(i - 255)
		bowl = append(bowl, at(v*0x1p-500, v*v*0x1p900))
	}
	check(bowl)
	if full < 500 {
		t.Errorf("too few have three corners: %d", full)
	}
}

// P25.2: where there is no other flaw, the inside of a polygon is in more than one piece just if it is cut.
func TestPieces(t *testing.T) {
	rule := sample.Rule(2522)
	var cut, whole int
	for range 500 {
		g := polygonOf(&rule, frame{1, 1, 0, false}, 2+rule.Below(3))
		f, e := valid.Check(g)
		if e != api.OK || f.Kind != 0 && f.Kind != api.FlawCut {
			continue
		}
		n := inPieces(g.Rings)
		if n < 1 || (n > 1) != (f.Kind == api.FlawCut) {
			t.Fatalf("P25.2: Check(%x) = %v, but it is in %d pieces", g, f, n)
		}
		if n > 1 {
			cut++
		} else {
			whole++
		}
	}
	if min(cut, whole) < 20 {
		t.Errorf("too few of a kind: %d cut, %d whole", cut, whole)
	}
}

// P25.8, P0.2: what is handed in stays as it is with its spare room, and an answer is nobody else's memory.
func TestMemory(t *testing.T) {
	rule := sample.Rule(258)
	deep := sample.Deep(20, sample.Group(api.Polygons, sample.Polygon(square), sample.Polygon(bow)))
	l := []api.Geom{deep, {Kind: 9}, sample.Group(api.Collection, deep, sample.Line(at(1, 1)), deep)}
	for range 200 {
		l = append(l, treeOf(&rule, 3))
	}
	for _, g := range l {
		h := sample.RoomyGeom(g)
		before := sample.WholeGeom(h)
		want, _ := valid.All(g)
		first, _ := valid.Check(g)
		got, _ := valid.All(h)
		one, _ := valid.Check(h)
		if !slices.EqualFunc(got, want, equal) || !equal(one, first) {
			t.Fatalf("P25.8: of a Geom with spare room: %v, %v, without: %v, %v", got, one, want, first)
		}
		for i, f := range append(got, one) {
			// Written over with its spare room: no other path may show it.
			room := f.Path[:cap(f.Path)]
			for k := range room {
				room[k] = -7
			}
			for k := i + 1; k < len(got); k++ {
				if !equal(got[k], want[k]) {
					t.Fatalf("P25.8: the paths of the flaws %d and %d share memory: %v", i, k, got)
				}
			}
		}
		for i := range got[:cap(got)] {
			got[:cap(got)][i] = api.Flaw{Kind: 77}
		}
		if again, _ := valid.All(h); !slices.EqualFunc(again, want, equal) {
			t.Fatalf("P25.8: All(%x) = %v, at first %v", g, again, want)
		}
		if again, _ := valid.Check(h); !equal(again, first) {
			t.Fatalf("P25.8: Check(%x) = %v, at first %v", g, again, first)
		}
		if !tree.Equal(sample.WholeGeom(h), before) {
			t.Fatalf("P25.8: what is handed in is changed: %x, before %x", sample.WholeGeom(h), before)
		}
	}
	for range 200 {
		l := sample.RoomyPoints(lineOf(&rule, rule.Below(9)))
		before := slices.Clone(l[:cap(l)])
		valid.Simple(l)
		if !slices.Equal(l[:cap(l)], before) {
			t.Fatalf("P25.8: what is handed in is changed: %x, before %x", l[:cap(l)], before)
		}
	}
}

// P25.1, P0.1: the greatest trees end, and are told of whole.
func TestGreatest(t *testing.T) {
	points := sample.Group(api.Collection)
	for range api.MaxPoints - api.MaxDepth {
		points.Parts = append(points.Parts, sample.Point())
	}
	points.Parts = append(points.Parts, sample.Line())
	g := sample.Deep(api.MaxDepth-1, points)
	l, e := valid.All(g)
	if e != api.OK || len(l) != api.MaxPoints || len(l[api.MaxPoints-1].Path) != api.MaxDepth-1 || l[api.MaxPoints-1].Path[254] != api.MaxPoints-256 {
		t.Errorf("P25.1: of the greatest collection: %d, %d", len(l), e)
	}
	if f, e := valid.Check(g); e != api.OK || !equal(f, api.Flaw{}) {
		t.Errorf("P25.4: of the greatest collection: %v, %d", f, e)
	}
	var round []api.Point
	for i := range api.MaxRing - 1 {
		v := float64(i - 255)
		round = append(round, at(v, v*v))
	}
	round = append(round, round[0])
	// Parts may share memory.
	polygons := sample.Group(api.Collection, slices.Repeat([]api.Geom{sample.Polygon(round)}, 127)...)
	polygons.Parts[126] = sample.Polygon(append(slices.Clone(round[:511]), at(7, 7)))
	l, e = valid.All(polygons)
	if e != api.OK || len(l) != 128 || plainFirst(l).Kind != api.FlawOpen || !equal(plainFirst(l), l[127]) {
		t.Errorf("P25.1: of 127 polygons of 512 points: %v, %d", plainFirst(l), e)
	}
	// As many rings as may be, in rows that touch one another, or do not.
	for step, want := range []int{api.FlawCross, api.FlawCut, 0} {
		rings := [][]api.Point{row(-1, -1, 99, -1, 99, 99, -1, -1)}
		for i := range 127 {
			x, y := float64(i%8+50), float64(i/8*step)
			rings = append(rings, row(x, y, x+1, y, x, y+1, x, y))
		}
		f, e := valid.Check(sample.Polygon(rings...))
		if e != api.OK || f.Kind != want {
			t.Errorf("P25.2: of 128 rings, %d apart: %v, %d, want %d", step, f, e, want)
		}
	}
}

// P0.1: many at once answer as one does.
func TestManyAtOnce(t *testing.T) {
	rule := sample.Rule(250)
	var all []api.Geom
	var want [][]api.Flaw
	for range 40 {
		g := treeOf(&rule, 3)
		l, _ := valid.All(g)
		all, want = append(all, g), append(want, l)
	}
	var group sync.WaitGroup
	for range 8 {
		group.Go(func() {
			for i, g := range all {
				l, e := valid.All(g)
				f, again := valid.Check(g)
				if e != api.OK || again != api.OK || !slices.EqualFunc(l, want[i], equal) || !equal(f, plainFirst(want[i])) {
					t.Errorf("P0.1: All(%x) = %v, %d, Check %v, %d, want %v", g, l, e, f, again, want[i])
				}
			}
		})
	}
	group.Wait()
}
