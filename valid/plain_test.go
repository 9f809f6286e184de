package valid_test

import (
	"math/big"
	"slices"

	"plumb/api"
	"plumb/sample"
	"plumb/tree"
)

// piece is a stretch of a line, with its number and its two ends.
type piece struct {
	number   int
	from, to api.Point
}

// same tells whether two points are one place.
func same(p, q api.Point) bool {
	return sample.ExactOf(p).Cmp(sample.ExactOf(q)) == 0
}

// pieces gives the stretches of a line or ring.
func pieces(l []api.Point) []piece {
	var out []piece
	for i := 1; i < len(l); i++ {
		if !same(l[i-1], l[i]) {
			out = append(out, piece{i - 1, l[i-1], l[i]})
		}
	}
	return out
}

// meet tells how two stretches meet.
func (s piece) meet(t piece) sample.Meeting {
	return sample.Meet(s.from, s.to, t.from, t.to)
}

// plainTangle gives the first of a line's stretches that meets a later one where it may not; false: none.
func plainTangle(l []api.Point) (piece, bool) {
	all := pieces(l)
	for i, s := range all {
		for j := i + 1; j < len(all); j++ {
			t := all[j]
			var common []api.Point
			if j == i+1 {
				common = append(common, s.to)
			}
			if i == 0 && j == len(all)-1 && same(s.from, t.to) {
				common = append(common, s.from)
			}
			m := s.meet(t)
			isEnd := func(p api.Point) bool { return sample.ExactOf(p).Cmp(m.P) == 0 }
			if m.Kind == 2 || m.Kind == 1 && !slices.ContainsFunc(common, isEnd) {
				return s, true
			}
		}
	}
	return piece{}, false
}

// plainLine is a line string's flaw.
func plainLine(l []api.Point) api.Flaw {
	if len(l) == 1 {
		return api.Flaw{Kind: api.FlawFew}
	}
	if len(l) > 1 && len(pieces(l)) == 0 {
		return api.Flaw{Kind: api.FlawTwice, Where: l[0]}
	}
	return api.Flaw{}
}

// plainRing is P25.3.
func plainRing(r []api.Point, number int) api.Flaw {
	last := len(r) - 1
	if len(r) < 4 {
		return api.Flaw{Kind: api.FlawFew, Ring: number}
	}
	if !same(r[0], r[last]) {
		return api.Flaw{Kind: api.FlawOpen, Ring: number, Spot: last, Where: r[last]}
	}
	if len(pieces(r)) == 0 {
		return api.Flaw{Kind: api.FlawTwice, Ring: number, Where: r[0]}
	}
	if s, found := plainTangle(r); found {
		return api.Flaw{Kind: api.FlawSelf, Ring: number, Spot: s.number, Where: s.from}
	}
	return api.Flaw{}
}

// middle gives the middle of two places.
func middle(p, q sample.Exact) sample.Exact {
	return p.Plus(big.NewRat(1, 2), q.Less(p))
}

// sorted gives places in order, each once.
func sorted(l []sample.Exact) []sample.Exact {
	slices.SortFunc(l, sample.Exact.Cmp)
	return slices.CompactFunc(l, func(p, q sample.Exact) bool { return p.Cmp(q) == 0 })
}

// isIn tells whether a place that is not on a ring is inside of it.
func isIn(p sample.Exact, r []api.Point) bool {
	_, edges := p.Winding(r)
	return edges%2 == 1
}

// relation is how a ring's line lies to another ring: does it share a stretch, has it points inside, outside, where do
// both meet.
type relation struct {
	shares, inside, outside bool
	places                  []sample.Exact
}

// relate cuts the first ring's stretches where they meet the second's, and asks of the middle of each piece where it is.
func relate(r, other []api.Point) relation {
	var out relation
	for _, s := range pieces(r) {
		cuts := []sample.Exact{sample.ExactOf(s.from), sample.ExactOf(s.to)}
		for _, t := range pieces(other) {
			m := s.meet(t)
			if m.Kind == 2 {
				return relation{shares: true}
			}
			if m.Kind == 1 {
				cuts = append(cuts, m.P)
				out.places = append(out.places, m.P)
			}
		}
		cuts = sorted(cuts)
		for i := 1; i < len(cuts); i++ {
			if isIn(middle(cuts[i-1], cuts[i]), other) {
				out.inside = true
			} else {
				out.outside = true
			}
		}
	}
	out.places = sorted(out.places)
	return out
}

// plainPolygon is P25.2 of a polygon.
func plainPolygon(rings [][]api.Point) api.Flaw {
	for i, r := range rings {
		if f := plainRing(r, i); f.Kind != 0 {
			return f
		}
	}
	for j := range rings {
		for i := range j {
			there, back := relate(rings[j], rings[i]), relate(rings[i], rings[j])
			f := api.Flaw{Ring: j, Spot: i}
			if there.shares || there.inside && there.outside || back.inside && back.outside {
				f.Kind = api.FlawCross
			} else if i == 0 && there.outside {
				f.Kind = api.FlawOutside
			} else if i > 0 && (there.inside || back.inside) {
				f.Kind = api.FlawNested
			}
			if f.Kind != 0 {
				return f
			}
		}
	}
	if plainTrip(rings) {
		return api.Flaw{Kind: api.FlawCut}
	}
	return api.Flaw{}
}

// plainTrip looks for a round trip by going all ways.
func plainTrip(rings [][]api.Point) bool {
	at := map[string][]int{} // the rings at each place at which one meets another
	name := func(p sample.Exact) string { return p.X.String() + " " + p.Y.String() }
	var places [][]string
	for j := range rings {
		places = append(places, nil)
		for i := range rings {
			if i == j {
				continue
			}
			for _, p := range relate(rings[j], rings[i]).places {
				if !slices.Contains(at[name(p)], j) {
					at[name(p)] = append(at[name(p)], j)
					places[j] = append(places[j], name(p))
				}
			}
		}
	}
	var rest func(ring, start int, used []int, gone []string) bool
	rest = func(ring, start int, used []int, gone []string) bool {
		for _, p := range places[ring] {
			if slices.Contains(gone, p) {
				continue
			}
			for _, next := range at[p] {
				if next == start && ring != start {
					return true
				}
				if !slices.Contains(used, next) && rest(next, start, append(slices.Clone(used), next), append(slices.Clone(gone), p)) {
					return true
				}
			}
		}
		return false
	}
	for i := range rings {
		if rest(i, i, []int{i}, nil) {
			return true
		}
	}
	return false
}

// isInside tells whether a place that is on no ring is inside of a polygon.
func isInside(p sample.Exact, rings [][]api.Point) bool {
	for i, r := range rings {
		if isIn(p, r) != (i == 0) {
			return false
		}
	}
	return len(rings) > 0
}

// levels gives the numbers X of all corners and meeting places of stretches.
func levels(all []piece) []*big.Rat {
	var out []*big.Rat
	for i, s := range all {
		out = append(out, sample.Value(s.from.X), sample.Value(s.to.X))
		for _, t := range all[:i] {
			if m := s.meet(t); m.Kind == 1 {
				out = append(out, m.P.X)
			}
		}
	}
	return ordered(out)
}

// ordered gives numbers in order, each once.
func ordered(l []*big.Rat) []*big.Rat {
	slices.SortFunc(l, (*big.Rat).Cmp)
	return slices.CompactFunc(l, func(a, b *big.Rat) bool { return a.Cmp(b) == 0 })
}

// half gives the number in the middle of two.
func half(a, b *big.Rat) *big.Rat {
	out := new(big.Rat).Add(a, b)
	return out.Quo(out, big.NewRat(2, 1))
}

// height gives the Y at which the line of a stretch that isn't upright comes to x; false: the stretch is upright, or does
// not come there.
func (s piece) height(x *big.Rat) (*big.Rat, bool) {
	p, q := sample.ExactOf(s.from), sample.ExactOf(s.to)
	if p.X.Cmp(x)*q.X.Cmp(x) > 0 || p.X.Cmp(q.X) == 0 {
		return nil, false
	}
	share := new(big.Rat).Sub(x, p.X)
	share.Quo(share, q.Less(p).X)
	return p.Plus(share, q.Less(p)).Y, true
}

// joined gives the stretches of all rings.
func joined(rings ...[]api.Point) []piece {
	var out []piece
	for _, r := range rings {
		out = append(out, pieces(r)...)
	}
	return out
}

// cells gives a place within each of the figures into which all stretches, and uprights through their corners and meeting
// places, cut the plane, but for those above and below all.
func cells(all []piece) []sample.Exact {
	var out []sample.Exact
	xs := levels(all)
	for i := 1; i < len(xs); i++ {
		x := half(xs[i-1], xs[i])
		var ys []*big.Rat
		for _, s := range all {
			if y, ok := s.height(x); ok {
				ys = append(ys, y)
			}
		}
		ys = ordered(ys)
		for k := 1; k < len(ys); k++ {
			out = append(out, sample.Exact{X: x, Y: half(ys[k-1], ys[k])})
		}
	}
	return out
}

// plainOverlap tells whether two polygons' insides have a point in common, or their rings a stretch: insides are open, so
// that they have a whole cell in common then.
func plainOverlap(p, q [][]api.Point) bool {
	for _, r := range p {
		for _, s := range q {
			if relate(r, s).shares {
				return true
			}
		}
	}
	both := func(c sample.Exact) bool { return isInside(c, p) && isInside(c, q) }
	return slices.ContainsFunc(cells(joined(slices.Concat(p, q)...)), both)
}

// plainPolygons is P25.2 of a MULTIPOLYGON.
func plainPolygons(parts []api.Geom) api.Flaw {
	for _, part := range parts {
		if plainPolygon(part.Rings).Kind != 0 {
			return api.Flaw{}
		}
	}
	for j := range parts {
		for i := range j {
			if plainOverlap(parts[i].Rings, parts[j].Rings) {
				return api.Flaw{Kind: api.FlawOverlap, Ring: j, Spot: i}
			}
		}
	}
	return api.Flaw{}
}

// plainOwn is a geometry's own first flaw.
func plainOwn(g api.Geom) api.Flaw {
	switch g.Kind {
	case api.ALine:
		return plainLine(g.Line)
	case api.APolygon:
		return plainPolygon(g.Rings)
	case api.Polygons:
		return plainPolygons(g.Parts)
	}
	return api.Flaw{}
}

// plainAll is P25.1 of what costs not too much.
func plainAll(g api.Geom) []api.Flaw {
	if tree.Check(g) != nil {
		return []api.Flaw{{Kind: api.FlawShape}}
	}
	return plainWithin(g, nil)
}

// plainWithin gives the flaws of a geometry at a path and of its parts.
func plainWithin(g api.Geom, path []int) []api.Flaw {
	own := plainOwn(g)
	own.Path = path
	out := []api.Flaw{own}
	for i, part := range g.Parts {
		out = append(out, plainWithin(part, append(slices.Clone(path), i))...)
	}
	return out
}

// plainFirst is P25.4.
func plainFirst(l []api.Flaw) api.Flaw {
	for _, f := range l {
		if f.Kind != 0 {
			return f
		}
	}
	return api.Flaw{}
}

// equal tells whether two flaws are the same.
func equal(f, g api.Flaw) bool {
	return f.Kind == g.Kind && f.Ring == g.Ring && f.Spot == g.Spot && f.Where == g.Where && slices.Equal(f.Path, g.Path)
}

// inPieces tells of how many pieces the inside of a polygon is whose rings touch in corners at most.
func inPieces(rings [][]api.Point) int {
	all := joined(rings...)
	xs := levels(all)
	in := func(c sample.Exact) bool { return isInside(c, rings) }
	var left []sample.Exact
	for _, c := range cells(all) {
		if in(c) {
			left = append(left, c)
		}
	}
	group := make([]int, len(left))
	for i := range group {
		group[i] = i
	}
	for i, c := range left {
		for j, d := range left[:i] {
			if from, to := group[i], group[j]; from != to && beside(c, d, all, xs) {
				for k := range group {
					if group[k] == from {
						group[k] = to
					}
				}
			}
		}
	}
	slices.Sort(group)
	return len(slices.Compact(group))
}

// beside tells whether the cells of two places have more than a point of a border in common through which no stretch
// goes: such a border is upright, between cells of two neighbouring levels.
func beside(c, d sample.Exact, all []piece, xs []*big.Rat) bool {
	var between []*big.Rat // the levels between c and d: of neighbours one
	for _, x := range xs {
		if x.Cmp(c.X)*x.Cmp(d.X) < 0 {
			between = append(between, x)
		}
	}
	if len(between) != 1 {
		return false
	}
	x := between[0]
	var ys []*big.Rat
	for _, s := range all {
		for _, p := range []sample.Exact{sample.ExactOf(s.from), sample.ExactOf(s.to)} {
			if p.X.Cmp(x) == 0 {
				ys = append(ys, p.Y)
			}
		}
		if y, ok := s.height(x); ok {
			ys = append(ys, y)
		}
	}
	ys = ordered(ys)
	for k := 1; k < len(ys); k++ {
		p := sample.Exact{X: x, Y: half(ys[k-1], ys[k])}
		blocked := func(s piece) bool {
			return p.On(sample.ExactOf(s.from), sample.ExactOf(s.to)) || crossesWay(s, c, p) || crossesWay(s, p, d)
		}
		if !slices.ContainsFunc(all, blocked) {
			return true
		}
	}
	return false
}

// crossesWay tells whether a stretch goes through the way between two places, neither of which is on it.
func crossesWay(s piece, p, q sample.Exact) bool {
	a, b := sample.ExactOf(s.from), sample.ExactOf(s.to)
	if a.On(p, q) {
		return true
	}
	v, w := b.Less(a), q.Less(p)
	return v.Cross(p.Less(a)).Sign()*v.Cross(q.Less(a)).Sign() < 0 && w.Cross(a.Less(p)).Sign()*w.Cross(b.Less(p)).Sign() <= 0
}
