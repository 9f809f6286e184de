package affine_test

import (
	"math"
	"math/big"
	"slices"
	"sync"
	"testing"

	"plumb/affine"
	"plumb/api"
	"plumb/sample"
	"plumb/tree"
)

// numberOf gives a number of the row: a small ratio mostly, a pattern's number, or one that is nearly as long as may be.
func numberOf(rule *sample.Rule) *big.Rat {
	switch rule.Below(16) {
	case 0, 1:
		return sample.Value(rule.Pattern())
	case 2:
		long := 262143 - rule.Below(3) - rule.Below(2)*1000
		out := two(long * (1 - 2*rule.Below(2)))
		return out.Mul(out, big.NewRat(int64(1-2*rule.Below(2)), 1))
	case 3, 4:
		return big.NewRat(int64(rule.Next()), int64(rule.Next()>>2+1))
	case 5, 6:
		return new(big.Rat)
	}
	return big.NewRat(int64(rule.Below(9)-4), int64(1+rule.Below(4)))
}

// plainAnswer holds a call's answer to a tree whose points are moved by the plain way, and tells its error.
func plainAnswer(t *testing.T, what string, g api.Geom, err error, of api.Geom, move func(api.Point) (api.Point, api.Errno)) api.Errno {
	t.Helper()
	want, at, e := plainMoved(of, 0, move)
	if e == api.OK && (err != nil || !tree.Equal(g, want)) || e != api.OK && (!isFault(err, at, e) || !tree.Equal(g, api.Geom{})) {
		t.Fatalf("%s of %x: %x, %v, want %x, %d at %d", what, of, g, err, want, e, at)
	}
	return e
}

// P26.1: as the words say, of any tree and any numbers.
func TestMapAsTheWordsSay(t *testing.T) {
	rule := sample.Rule(261)
	seen := map[api.Errno]int{}
	ask := func(g api.Geom) {
		var m six
		for i := range m {
			m[i] = numberOf(&rule)
		}
		got, err := affine.Map(g, m.rats())
		seen[plainAnswer(t, "P26.1: Map", got, err, g, m.plainMap)]++
	}
	for _, g := range sample.Trees() {
		ask(g)
	}
	for range 1200 {
		ask(sample.Group(api.Collection, sample.Point(), rule.Tree(2), sample.Line(rule.Row(rule.Below(3))...)))
	}
	if min(seen[api.OK], seen[api.ErrHuge], seen[api.ErrAffine]) < 100 {
		t.Errorf("too few of a kind: %d", seen)
	}
}

// stepOf gives a step of the row that is above 0: as numberOf does, or one that is about the greatest pattern's.
func stepOf(rule *sample.Rule) *big.Rat {
	if rule.Below(10) == 0 {
		out := two(1020 + rule.Below(6))
		return out.Mul(out, big.NewRat(int64(1+rule.Below(20)), 20))
	}
	for {
		if q := numberOf(rule); q.Sign() != 0 {
			return q.Abs(q)
		}
	}
}

// tieOf gives a coordinate of the row that is some halves of a step, if a pattern is just that.
func tieOf(rule *sample.Rule, step *big.Rat) uint64 {
	q := new(big.Rat).Mul(step, big.NewRat(int64(rule.Below(41)-20), 2))
	f, exact := q.Float64()
	if !exact || math.IsInf(f, 0) {
		return rule.Pattern()
	}
	return math.Float64bits(f)
}

// P26.2: as the words say, of any tree and step.
func TestSnapAsTheWordsSay(t *testing.T) {
	rule := sample.Rule(262)
	seen := map[api.Errno]int{}
	ask := func(g api.Geom, step *big.Rat) {
		got, err := affine.Snap(g, ratOf(step))
		seen[plainAnswer(t, "P26.2: Snap", got, err, g, plainSnap(step))]++
	}
	for _, g := range sample.Trees() {
		ask(g, stepOf(&rule))
	}
	for range 2000 {
		step := stepOf(&rule)
		tie := api.Point{X: tieOf(&rule, step), Y: tieOf(&rule, step)}
		ask(sample.Group(api.Collection, sample.Point(tie), rule.Tree(2), sample.Line(rule.Row(rule.Below(3))...)), step)
	}
	if seen[api.OK] < 1000 || seen[api.ErrHuge] < 40 || seen[api.ErrAffine] < 8 {
		t.Errorf("too few of a kind: %d", seen)
	}
}

// lineOf gives a line of the row, with the square of a distance that one of its points has from a stretch of it, more often
// than not.
func lineOf(rule *sample.Rule, n int) ([]api.Point, *big.Rat) {
	l := rule.Crowd(n)
	switch rule.Below(6) {
	case 0:
		return l, new(big.Rat)
	case 1:
		return l, stepOf(rule)
	}
	pick := func() api.Point { return l[rule.Below(n)] }
	square := plainFar(pick(), pick(), pick())
	if rule.Below(3) == 0 {
		square.Mul(square, big.NewRat(999999, 1000000))
	}
	return l, square
}

// P26.3, P26.6: as the words say, of any line; what is left out lies near to what stays.
func TestThinAsTheWordsSay(t *testing.T) {
	rule := sample.Rule(263)
	var all, some, refused int
	for range 1500 {
		l, square := lineOf(&rule, 3+rule.Below(8))
		stays, huge := plainThin(l, square)
		var want []api.Point
		for _, i := range stays {
			want = append(want, l[i])
		}
		got, e := affine.Thin(l, ratOf(square))
		if huge != (e == api.ErrHuge) || !huge && e != api.OK || !slices.Equal(got, want) {
			t.Fatalf("P26.3: Thin(%x, %v) = %x, %d, want %x, %t", l, square, got, e, want, huge)
		}
		switch {
		case huge:
			refused++
			continue
		case len(stays) == len(l):
			all++
		case len(stays) > 2:
			some++
		}
		near(t, l, stays, square)
	}
	if min(all, some) < 200 || refused < 5 {
		t.Errorf("too few of a kind: %d stay whole, %d in part, %d refused", all, some, refused)
	}
}

// near fails if a point that was left out is farther from all stretches that stay.
func near(t *testing.T, l []api.Point, stays []int, square *big.Rat) {
	t.Helper()
	for i, p := range l {
		if slices.Contains(stays, i) {
			continue
		}
		within := false
		for k := 1; k < len(stays); k++ {
			d := plainFar(l[stays[k-1]], l[stays[k]], p)
			within = within || d.Cmp(square) <= 0
		}
		if !within {
			t.Fatalf("P26.6: of %x %d stay: %x is farther than %v", l, stays, p, square)
		}
	}
}

// fewPlaces gives a Geom, as sample.Rule's Geom does, of few enough places and kinds that two have a beginning in common.
func fewPlaces(rule *sample.Rule, levels int) api.Geom {
	spots := func() []api.Point {
		var out []api.Point
		for range rule.Below(3) {
			out = append(out, api.Point{X: rule.Next() >> 63 << 63, Y: rule.Next() >> 62})
		}
		return out
	}
	out := api.Geom{Kind: rule.Below(2)}
	if rule.Below(2) == 0 {
		out.Line = spots()
	}
	for range rule.Below(3) {
		out.Rings = append(out.Rings, spots())
	}
	for range rule.Below(3) {
		if levels > 1 {
			out.Parts = append(out.Parts, fewPlaces(rule, levels-1))
		}
	}
	return out
}

// P26.4, P26.6: as the words say, of any Geoms; it is an order.
func TestLessAsTheWordsSay(t *testing.T) {
	rule := sample.Rule(264)
	list := sample.Trees()[:60]
	for range 250 {
		list = append(list, rule.Geom(3), fewPlaces(&rule, 1+rule.Below(3)))
	}
	for _, a := range list {
		for _, b := range list {
			n := plainGeoms(a, b)
			if less := affine.Less(a, b); less != (n < 0) || (n == 0) != tree.Equal(a, b) {
				t.Fatalf("P26.4: Less(%x, %x) = %t, want %d", a, b, less, n)
			}
		}
	}
	for range 100000 {
		a, b, c := list[rule.Below(len(list))], list[rule.Below(len(list))], list[rule.Below(len(list))]
		if affine.Less(a, b) && affine.Less(b, c) && !affine.Less(a, c) {
			t.Fatalf("P26.6: %x, %x and %x are in no order", a, b, c)
		}
	}
}

// holed gives a tree of the row with polygons in it.
func holed(rule *sample.Rule) api.Geom {
	out := sample.Group(api.Polygons)
	for range rule.Below(4) {
		out.Parts = append(out.Parts, sample.Polygon(make([][]api.Point, rule.Below(5))...))
	}
	if rule.Below(2) == 0 {
		return out
	}
	return sample.Group(api.Collection, rule.Tree(3), out, rule.Tree(3))
}

// closed gives a tree of the row whose rings are closed but for one in many, and of few places.
func closed(rule *sample.Rule, g api.Geom) api.Geom {
	out := api.Geom{Kind: g.Kind, Line: g.Line}
	for range g.Rings {
		r := rule.Crowd(1 + rule.Below(6))
		if rule.Below(40) > 0 {
			r = append(r, rule.OtherZeros(r[:1])...)
		}
		out.Rings = append(out.Rings, r)
		if rule.Below(3) == 0 {
			out.Rings[len(out.Rings)-1] = out.Rings[rule.Below(len(out.Rings))]
		}
	}
	for _, part := range g.Parts {
		out.Parts = append(out.Parts, closed(rule, part))
		if rule.Below(4) == 0 {
			out.Parts[len(out.Parts)-1] = out.Parts[rule.Below(len(out.Parts))]
		}
	}
	return out
}

// otherWay gives a tree that P26.6 says is one with another: rings begun elsewhere or turned round, holes and parts in
// another order.
func otherWay(rule *sample.Rule, g api.Geom) api.Geom {
	out := api.Geom{Kind: g.Kind, Line: g.Line}
	for _, r := range g.Rings {
		if r[0] == r[len(r)-1] {
			r = begun(r, rule.Below(len(r)-min(1, len(r)-1)))
			if rule.Below(2) == 0 {
				r = back(r)
			}
		}
		out.Rings = append(out.Rings, r)
	}
	for _, part := range g.Parts {
		out.Parts = append(out.Parts, otherWay(rule, part))
	}
	if len(out.Rings) > 0 {
		shuffle(rule, out.Rings[1:])
	}
	shuffle(rule, out.Parts)
	return out
}

// shuffle puts a list in another order.
func shuffle[T any](rule *sample.Rule, l []T) {
	for i := range l {
		j := rule.Below(i + 1)
		l[i], l[j] = l[j], l[i]
	}
}

// P26.5, P26.6: as the words say, of any tree; once in order it stays; the same of all that differ by turns and order.
func TestNormalAsTheWordsSay(t *testing.T) {
	rule := sample.Rule(265)
	var right, open, other int
	for range 2500 {
		g := closed(&rule, holed(&rule))
		got, err := affine.Normal(g)
		if at := plainOpen(g, 0); at >= 0 {
			refused(t, "P26.5: a ring that is none", got, err, at, api.ErrLoop)
			open++
			continue
		}
		want := plainNormal(g)
		if err != nil || !tree.Equal(got, want) {
			t.Fatalf("P26.5: Normal(%x) = %x, %v, want %x", g, got, err, want)
		}
		right++
		twice, err := affine.Normal(got)
		is(t, "P26.6: Normal twice", twice, err, got)
		h := otherWay(&rule, g)
		of, err := affine.Normal(h)
		is(t, "P26.6: Normal of another way to write it", of, err, got)
		if !tree.Equal(g, h) {
			other++
		}
	}
	if min(right, other) < 1000 || open < 60 {
		t.Errorf("too few of a kind: %d right, of which %d written otherwise, %d open", right, other, open)
	}
}

// plainZeros gives a tree in which each -0 is 0.
func plainZeros(p api.Point) (api.Point, api.Errno) {
	for _, b := range []*uint64{&p.X, &p.Y} {
		if *b == 1<<63 {
			*b = 0
		}
	}
	return p, api.OK
}

// P26.6: Map by what changes nothing.
func TestMapToTheSame(t *testing.T) {
	same := sixOf("1", "0", "0", "0", "1", "0").rats()
	for _, g := range sample.Trees() {
		got, err := affine.Map(g, same)
		plainAnswer(t, "P26.6: Map to the same", got, err, g, plainZeros)
	}
}

// after gives the one map that is one map behind another.
func (m six) after(n six) six {
	var out six
	for i := range 6 {
		first := i / 3 * 3
		out[i] = sum(new(big.Rat).Mul(m[first], n[i%3]), new(big.Rat).Mul(m[first+1], n[3+i%3]))
	}
	out[2].Add(out[2], m[2])
	out[5].Add(out[5], m[5])
	return out
}

// small gives a number of the row that is a few quarters.
func small(rule *sample.Rule) *big.Rat {
	return big.NewRat(int64(rule.Below(33)-16), 4)
}

// grid gives a tree of the row whose numbers are a few quarters.
func grid(rule *sample.Rule) api.Geom {
	g := rule.Tree(4)
	out, _, _ := plainMoved(g, 0, func(api.Point) (api.Point, api.Errno) {
		return sample.At(rule.Below(99)-49, rule.Below(99)-49), api.OK
	})
	return out
}

// P26.6: as long as nothing is rounded, one map behind the other is one.
func TestMapBehindMap(t *testing.T) {
	rule := sample.Rule(2661)
	for range 600 {
		var m, n six
		for i := range 6 {
			m[i], n[i] = small(&rule), small(&rule)
		}
		g := grid(&rule)
		once, err := affine.Map(g, n.rats())
		if err != nil {
			t.Fatal(err)
		}
		twice, err := affine.Map(once, m.rats())
		if err != nil {
			t.Fatal(err)
		}
		got, err := affine.Map(g, m.after(n).rats())
		is(t, "P26.6: one map behind the other", got, err, twice)
	}
}

// P26.6: as long as nothing is rounded, what is snapped stays when it is snapped again, and goes no farther than half a
// step.
func TestSnapAgain(t *testing.T) {
	rule := sample.Rule(2662)
	for range 600 {
		step := big.NewRat(int64(1+rule.Below(40)), int64(1<<rule.Below(5)))
		g := grid(&rule)
		once, err := affine.Snap(g, ratOf(step))
		if err != nil {
			t.Fatal(err)
		}
		twice, err := affine.Snap(once, ratOf(step))
		is(t, "P26.6: Snap again", twice, err, once)
		from, to := tree.Points(g), tree.Points(once)
		for i := range from {
			way := sample.ExactOf(to[i]).Less(sample.ExactOf(from[i]))
			for _, d := range []*big.Rat{way.X, way.Y} {
				if sum(d, d).Abs(sum(d, d)).Cmp(step) > 0 {
					t.Fatalf("P26.6: %x goes to %x by steps of %v", from[i], to[i], step)
				}
			}
		}
	}
}

// roomyRat gives a Rat whose lists have spare room.
func roomyRat(r api.Rat) api.Rat {
	return api.Rat{Neg: r.Neg, Num: sample.Roomy(r.Num, 0x1234), Den: sample.Roomy(r.Den, 0x5678)}
}

// wholeRat gives the words of a Rat's lists and of their spare room.
func wholeRat(r api.Rat) [2][]uint64 {
	return [2][]uint64{slices.Clone(r.Num[:cap(r.Num)]), slices.Clone(r.Den[:cap(r.Den)])}
}

// P26.7: what is handed in stays as it is, its spare room too; what is answered stands apart from it and from all else.
func TestMemory(t *testing.T) {
	rule := sample.Rule(267)
	var m [6]api.Rat
	for i, q := range sixOf("1/3", "-2", "0", "5/7", "1", "-1/2") {
		m[i] = roomyRat(ratOf(q))
	}
	step := roomyRat(ratOf(ratio("3/7")))
	rats := slices.Concat(m[:], []api.Rat{step})
	var before [][2][]uint64
	for _, r := range rats {
		before = append(before, wholeRat(r))
	}
	for range 200 {
		plain, _, _ := plainMoved(closed(&rule, rule.Tree(4)), 0, func(api.Point) (api.Point, api.Errno) {
			return sample.At(rule.Below(9), 7), api.OK
		})
		for len(plain.Parts) > 0 && plainOpen(plain, 0) >= 0 {
			plain = sample.Group(api.Collection)
		}
		g := sample.RoomyGeom(plain)
		ground := sample.NewGround()
		if !ground.Geom(g) {
			t.Fatal("what is handed in shares memory")
		}
		for range 2 {
			mapped, _ := affine.Map(g, m)
			snapped, _ := affine.Snap(g, step)
			normal, _ := affine.Normal(g)
			if !ground.Geom(mapped) || !ground.Geom(snapped) || !ground.Geom(normal) {
				t.Fatalf("P26.7: answers for %x share memory", plain)
			}
			affine.Less(g, normal)
			affine.Less(normal, g)
		}
		if !tree.Equal(sample.WholeGeom(g), sample.WholeGeom(sample.RoomyGeom(plain))) {
			t.Fatalf("P26.7: what is handed in is changed: %x", sample.WholeGeom(g))
		}
		l := sample.RoomyPoints(rule.Crowd(rule.Below(9)))
		ends := slices.Clone(l[:cap(l)])
		if !ground.Points(l) {
			t.Fatal("what is handed in shares memory")
		}
		for range 2 {
			if got, _ := affine.Thin(l, step); !ground.Points(got) {
				t.Fatalf("P26.7: Thin's answer for %x shares memory", l)
			}
		}
		if !slices.Equal(l[:cap(l)], ends) {
			t.Fatalf("P26.7: what is handed in is changed: %x, before %x", l[:cap(l)], ends)
		}
	}
	for i, r := range rats {
		now := wholeRat(r)
		if !slices.Equal(now[0], before[i][0]) || !slices.Equal(now[1], before[i][1]) {
			t.Errorf("P26.7: Rat %d is changed", i)
		}
	}
}

// P26.7: parts and rings that share memory have lists apart in the answer.
func TestSharedMemory(t *testing.T) {
	ring := row(0, 0, 1, 0, 0, 1, 0, 0)
	part := sample.Polygon(ring, ring)
	g := sample.Group(api.Collection, part, sample.Group(api.Polygons, part, part))
	mapped, err := affine.Map(g, sixOf("1", "0", "0", "0", "1", "0").rats())
	snapped, bad := affine.Snap(g, ratOf(ratio("1/2")))
	normal, worse := affine.Normal(g)
	if err != nil || bad != nil || worse != nil {
		t.Fatal(err, bad, worse)
	}
	ground := sample.NewGround()
	for i, h := range []api.Geom{mapped, snapped, normal} {
		if !ground.Geom(h) || !ground.Points(ring) && i == 0 {
			t.Errorf("P26.7: answer %d shares memory", i)
		}
	}
	is(t, "P26.1: Map of shared memory", mapped, nil, g)
	is(t, "P26.2: Snap of shared memory", snapped, nil, g)
}

// P26.4, P0.1: of the greatest Geoms all is told; of greater ones, and such as lead back to themselves, Less ends.
func TestLessOfTheGreatest(t *testing.T) {
	deep := func(levels int, g api.Geom) api.Geom { return sample.Deep(levels, g) }
	points := make([]api.Point, api.MaxPoints-1)
	line, next := sample.Line(points...), sample.Line(slices.Clone(points)...)
	next.Line[api.MaxPoints-2].Y = 1
	wide := sample.Group(7, slices.Repeat([]api.Geom{sample.Point()}, api.MaxPoints-1)...)
	wider := sample.Group(7, slices.Clone(wide.Parts)...)
	wider.Parts[api.MaxPoints-2].Kind = api.ALine
	twofold := func(g api.Geom) api.Geom { // 16 levels, 2^16 - 1 geometries
		for range 15 {
			g = sample.Group(7, g, g)
		}
		return g
	}
	last := twofold(sample.Point())
	last.Parts = slices.Clone(last.Parts)
	last.Parts[1] = deep(15, sample.Point())
	for i, c := range [][2]api.Geom{
		{line, next}, {wide, wider}, {deep(api.MaxPoints-1, sample.Point()), deep(api.MaxPoints-1, sample.Line())},
		{last, twofold(sample.Point())}, {twofold(sample.Point()), twofold(sample.Line())},
		{deep(1000, line), deep(1001, sample.Point())},
	} {
		if !affine.Less(c[0], c[1]) || affine.Less(c[1], c[0]) || affine.Less(c[0], c[0]) || affine.Less(c[1], c[1]) {
			t.Errorf("P26.4: the greatest, number %d: %t, the other way %t", i, affine.Less(c[0], c[1]), affine.Less(c[1], c[0]))
		}
	}
	circle := sample.Group(7, slices.Repeat([]api.Geom{sample.Point()}, 60000)...)
	circle.Parts[0] = circle
	circle.Parts[59999] = circle
	great := sample.Point()
	for range 300 {
		great = sample.Group(7, great, great, sample.Line(points...))
	}
	rings := sample.Polygon(slices.Repeat([][]api.Point{points}, 60000)...)
	many := sample.Group(7, slices.Repeat([]api.Geom{rings}, 60000)...)
	for i, g := range []api.Geom{circle, great, many} {
		h := sample.Group(g.Kind, slices.Clone(g.Parts)...)
		if affine.Less(g, g) || affine.Less(g, h) && affine.Less(h, g) {
			t.Errorf("P26.4: too great, number %d: ahead of itself", i)
		}
	}
}

// P26.1, P26.2, P26.3, P26.5: the greatest trees and lines are told of whole.
func TestGreatest(t *testing.T) {
	rule := sample.Rule(269)
	var parts []api.Geom
	for range (api.MaxPoints - api.MaxDepth) / 2 {
		parts = append(parts, sample.Point(sample.At(rule.Below(1000), rule.Below(1000))))
	}
	g := sample.Deep(api.MaxDepth-1, sample.Group(api.Points, parts...))
	m := sixOf("1", "1", "0", "0", "2", "1")
	got, err := affine.Map(g, m.rats())
	plainAnswer(t, "P26.1: Map", got, err, g, m.plainMap)
	step := ratio("7/3")
	got, err = affine.Snap(g, ratOf(step))
	plainAnswer(t, "P26.2: Snap", got, err, g, plainSnap(step))
	got, err = affine.Normal(g)
	l := tree.Points(got)
	if err != nil || len(l) != len(parts) || !slices.IsSortedFunc(l, func(p, q api.Point) int { return sample.ExactOf(p).Cmp(sample.ExactOf(q)) }) {
		t.Errorf("P26.5: Normal of the greatest: %d points, %v", len(l), err)
	}
	ring := rule.Crowd(api.MaxRing - 1)
	polygon := sample.Polygon(append(ring, ring[0]))
	polygons := sample.Group(api.Polygons, slices.Repeat([]api.Geom{polygon}, 127)...)
	got, err = affine.Normal(polygons)
	want := sample.Group(api.Polygons, slices.Repeat([]api.Geom{plainNormal(polygon)}, 127)...)
	is(t, "P26.5: Normal of 127 rings", got, err, want)
	var curve []api.Point
	for i := range api.MaxRing {
		curve = append(curve, sample.At(i, (i-200)*(i-300)))
	}
	for _, square := range []*big.Rat{big.NewRat(1, 20), big.NewRat(5, 1)} {
		stays, _ := plainThin(curve, square)
		got, e := affine.Thin(curve, ratOf(square))
		if e != api.OK || len(got) != len(stays) {
			t.Errorf("P26.3: Thin of 512 points by %v: %d stay, %d, want %d", square, len(got), e, len(stays))
		}
	}
}

// P0.1: many at once answer as one does.
func TestManyAtOnce(t *testing.T) {
	rule := sample.Rule(260)
	m := sixOf("1/3", "2", "-1", "0", "7/5", "1/2").rats()
	step := ratOf(ratio("2/3"))
	var all []api.Geom
	for range 60 {
		all = append(all, closed(&rule, rule.Tree(4)))
	}
	answers := func() []api.Geom {
		var out []api.Geom
		for _, g := range all {
			mapped, _ := affine.Map(g, m)
			snapped, _ := affine.Snap(g, step)
			normal, _ := affine.Normal(g)
			thin, _ := affine.Thin(slices.Concat(tree.Points(g), tree.Points(g)), step)
			out = append(out, mapped, snapped, normal, sample.Line(thin...))
		}
		return out
	}
	want := answers()
	var group sync.WaitGroup
	for range 8 {
		group.Go(func() {
			if got := answers(); !slices.EqualFunc(got, want, tree.Equal) {
				t.Error("P0.1: answers differ from those of one alone")
			}
		})
	}
	group.Wait()
}
