package valid_test

import (
	"cmp"
	"slices"

	"plumb/api"
	"plumb/sample"
	"plumb/valid"
)

// knot is a place of a grid.
type knot [2]int

// frame lays a grid into the plane, such that no number is rounded.
type frame struct {
	x, y  float64
	slope int
	swap  bool
}

// frameOf gives a frame of the row: large or small, slanting or not.
func frameOf(rule *sample.Rule) frame {
	units := []float64{1, 0.75, -3, 0x1p-1074, 0x1.8p1018, 0x1p-600}
	unit := func() float64 { return units[rule.Below(len(units))] }
	return frame{unit(), unit(), rule.Below(3), rule.Below(2) == 0}
}

// points lays knots.
func (f frame) points(l []knot) []api.Point {
	var out []api.Point
	for _, k := range l {
		p := sample.Spot(float64(k[0]+f.slope*k[1]-3)*f.x, float64(k[1]-3)*f.y)
		if f.swap {
			p = api.Point{X: p.Y, Y: p.X}
		}
		out = append(out, p)
	}
	return out
}

// knots gives so many of the row, of a grid of that size.
func knots(rule *sample.Rule, n, size int) []knot {
	x, y := rule.Below(3), rule.Below(3)
	var out []knot
	for range n {
		out = append(out, knot{x + rule.Below(size), y + rule.Below(size)})
	}
	return out
}

// turn tells twice the area of three knots.
func turn(a, b, c knot) int {
	return (b[0]-a[0])*(c[1]-a[1]) - (b[1]-a[1])*(c[0]-a[0])
}

// hump gives a ring through knots, without the first one again behind: from the least to the greatest along those on the
// one side of the line between them, and back along the others. So it meets itself nowhere, if not all are on that line.
func hump(l []knot) []knot {
	l = slices.Clone(l)
	slices.SortFunc(l, func(a, b knot) int { return cmp.Or(a[0]-b[0], a[1]-b[1]) })
	var there, back []knot
	for _, k := range l {
		if turn(l[0], l[len(l)-1], k) > 0 {
			back = append(back, k)
		} else {
			there = append(there, k)
		}
	}
	slices.Reverse(back)
	return append(there, back...)
}

// along gives knots of a ring's line one after the other, as the row chooses them.
func along(rule *sample.Rule, r []knot) []knot {
	var all, out []knot
	for i, a := range r {
		b := r[(i+1)%len(r)]
		n := gcd(b[0]-a[0], b[1]-a[1])
		for k := range n {
			all = append(all, knot{a[0] + (b[0]-a[0])/n*k, a[1] + (b[1]-a[1])/n*k})
		}
	}
	for _, k := range all {
		if rule.Below(3) == 0 {
			out = append(out, k)
		}
	}
	if len(out) < 3 {
		return r
	}
	return out
}

// gcd gives the greatest number that divides both.
func gcd(a, b int) int {
	for b != 0 {
		a, b = b, a%b
	}
	return max(a, -a)
}

// within gives a knot between every two of a ring: it is mostly inside.
func within(rule *sample.Rule, r []knot) []knot {
	var out []knot
	for range 3 + rule.Below(3) {
		a, b := r[rule.Below(len(r))], r[rule.Below(len(r))]
		out = append(out, knot{(a[0] + b[0]) / 2, (a[1] + b[1]) / 2})
	}
	return hump(out)
}

// round gives knots as a ring that is begun somewhere, either way about, some of them twice in a row, and the first again.
func round(rule *sample.Rule, l []knot) []knot {
	i := rule.Below(len(l))
	l = slices.Concat(l[i:], l[:i], l[i:i+1])
	if rule.Below(2) == 0 {
		slices.Reverse(l)
	}
	var out []knot
	for _, k := range l {
		out = append(out, slices.Repeat([]knot{k}, 1+(7+rule.Below(8))/14)...)
	}
	return out
}

// next gives a ring of the row, without the first knot again: within one of others, along it, or anywhere.
func next(rule *sample.Rule, others [][]knot) []knot {
	square := []knot{{0, 0}, {6, 0}, {6, 6}, {0, 6}}
	if len(others) == 0 && rule.Below(2) == 0 {
		return square
	}
	some := hump(knots(rule, 3+rule.Below(4), 2+rule.Below(4)))
	if len(others) == 0 {
		return some
	}
	one := others[rule.Below(len(others))]
	switch rule.Below(6) {
	case 0, 1:
		return within(rule, one)
	case 2:
		return along(rule, one)
	case 3:
		return knots(rule, 3+rule.Below(3), 5)
	case 4:
		x, y := 1+rule.Below(3), 1+rule.Below(3)
		return []knot{{x, y}, {x + 2, y}, {x + 2, y + 2}, {x, y + 2}}
	}
	return some
}

// laid gives a ring's points, its zeros as the row says.
func (f frame) laid(rule *sample.Rule, r []knot) []api.Point {
	return rule.OtherZeros(f.points(round(rule, r)))
}

// kindOf gives the kind of a geometry's first flaw, as the package itself tells it: what it tells of is chosen by it, and
// held to the words then.
func kindOf(g api.Geom) int {
	f, _ := valid.Check(g)
	return f.Kind
}

// polygonOf gives a polygon of the row of at most so many rings; rings that go through others, or lie outside, are left
// out more often than not.
func polygonOf(rule *sample.Rule, f frame, n int) api.Geom {
	out := api.Geom{Kind: api.APolygon}
	var all [][]knot
	for range 4 * n {
		r := next(rule, all)
		rings := append(slices.Clone(out.Rings), f.laid(rule, r))
		switch kindOf(api.Geom{Kind: api.APolygon, Rings: rings}) {
		case api.FlawSelf, api.FlawCross, api.FlawOutside:
			if rule.Below(8) != 0 {
				continue
			}
		}
		all = append(all, r)
		out.Rings = rings
		if len(all) == n {
			break
		}
	}
	if i := rule.Below(10 * n); i < len(out.Rings) {
		out.Rings[i] = spoilt(rule, out.Rings[i])
	}
	return out
}

// spoilt gives a ring that is too short, or open, or of one place.
func spoilt(rule *sample.Rule, r []api.Point) []api.Point {
	switch rule.Below(3) {
	case 0:
		return r[:1+rule.Below(min(3, len(r)))]
	case 1:
		return r[:len(r)-1]
	}
	return slices.Repeat(r[:1], 1+rule.Below(6))
}

// polygonsOf gives so many of the row, most of them sound by themselves, and empty ones among them.
func polygonsOf(rule *sample.Rule, f frame, n int) api.Geom {
	out := api.Geom{Kind: api.Polygons}
	var all [][]knot
	for range n {
		part := api.Geom{Kind: api.APolygon}
		if rule.Below(12) != 0 {
			part = oneMore(rule, f, &all)
		}
		out.Parts = append(out.Parts, part)
	}
	return out
}

// oneMore gives a polygon whose rings lie within others or along them, mostly a sound one; and notes its rings.
func oneMore(rule *sample.Rule, f frame, all *[][]knot) api.Geom {
	for {
		rings := [][]knot{next(rule, *all)}
		for range rule.Below(3) {
			rings = append(rings, next(rule, rings))
		}
		g := api.Geom{Kind: api.APolygon}
		for _, r := range rings {
			g.Rings = append(g.Rings, f.laid(rule, r))
		}
		if rule.Below(30) == 0 || kindOf(g) == 0 {
			*all = append(*all, rings...)
			return g
		}
	}
}

// lineOf gives a line string of the row.
func lineOf(rule *sample.Rule, n int) []api.Point {
	l := rule.Crowd(n)
	if n > 2 && rule.Below(2) == 0 {
		l = append(l, rule.OtherZeros(l[:1])...)
	}
	if n > 0 && rule.Below(4) == 0 {
		i := rule.Below(n)
		l = slices.Insert(l, i, rule.OtherZeros(l[i:i+1])...)
	}
	return l
}
