package seg

import (
	"cmp"
	"slices"

	"plumb/api"
	"plumb/f64"
	"plumb/pred"
)

// place is a point's place by the ranks of its patterns: these are in the order of the numbers, and are one of 0 and -0.
type place struct {
	x, y int64
}

// stretch is one from the lesser of two places to the greater.
type stretch [2]place

// Kinds of meetings.
const (
	noPlace = iota
	onePlace
	manyPlaces
)

// placesOf gives the places of points; ErrSpot, if one is not finite.
func placesOf(l ...api.Point) ([]place, api.Errno) {
	out := make([]place, len(l))
	for i, p := range l {
		x, e := f64.Rank(p.X)
		y, f := f64.Rank(p.Y)
		if e != api.OK || f != api.OK {
			return nil, api.ErrSpot
		}
		out[i] = place{x, y}
	}
	return out, api.OK
}

// point gives a place as a point.
func (p place) point() api.Point {
	x, _ := f64.At(p.x)
	y, _ := f64.At(p.y)
	return api.Point{X: x, Y: y}
}

// order compares places by x, then y.
func order(p place, q place) int {
	return cmp.Or(cmp.Compare(p.x, q.x), cmp.Compare(p.y, q.y))
}

// between gives the stretch between two places.
func between(p place, q place) stretch {
	if order(p, q) > 0 {
		return stretch{q, p}
	}
	return stretch{p, q}
}

// stretches gives those from each place to the next.
func stretches(l []place) []stretch {
	var out []stretch
	for i := 1; i < len(l); i++ {
		out = append(out, between(l[i-1], l[i]))
	}
	return out
}

// meet tells how two stretches meet; the place of a proper meeting, which is no end, is left to the caller.
func meet(s stretch, t stretch) api.Meeting {
	if apart(s, t) {
		return api.Meeting{}
	}
	ofT := s.sides(t)
	if ofT[0]*ofT[1] > 0 {
		return api.Meeting{}
	}
	ofS := t.sides(s)
	if ofT[0]*ofT[1] < 0 && ofS[0]*ofS[1] < 0 {
		return api.Meeting{Kind: onePlace, Proper: true}
	}
	// Else what they have in common, if anything, begins at an end of one and ends at an end of one.
	var ends []place
	for i := range s {
		if ofT[i] == 0 && s.spans(t[i]) {
			ends = append(ends, t[i])
		}
		if ofS[i] == 0 && t.spans(s[i]) {
			ends = append(ends, s[i])
		}
	}
	if len(ends) == 0 {
		return api.Meeting{}
	}
	first, last := slices.MinFunc(ends, order), slices.MaxFunc(ends, order)
	if first == last {
		return api.Meeting{Kind: onePlace, P: first.point()}
	}
	return api.Meeting{Kind: manyPlaces, P: first.point(), Q: last.point()}
}

// apart tells whether the boxes around two stretches have no place in common.
func apart(s stretch, t stretch) bool {
	return s[1].x < t[0].x || t[1].x < s[0].x ||
		max(s[0].y, s[1].y) < min(t[0].y, t[1].y) || max(t[0].y, t[1].y) < min(s[0].y, s[1].y)
}

// spans tells whether a place that is on the line of a stretch is on the stretch.
func (s stretch) spans(p place) bool {
	return order(s[0], p) <= 0 && order(p, s[1]) <= 0
}

// sides tells the side of each end of t.
func (s stretch) sides(t stretch) [2]int {
	return [2]int{s.side(t[0]), s.side(t[1])}
}

// side tells on which side of a stretch's line a place lies: 1 left, -1 right, 0 on it (on a stretch of one place: 0).
func (s stretch) side(p place) int {
	for _, end := range s {
		// It is the sign of the difference of two products, and often told by theirs alone: no number is reckoned then.
		first := cmp.Compare(s[1].x, s[0].x) * cmp.Compare(p.y, end.y)
		second := cmp.Compare(s[1].y, s[0].y) * cmp.Compare(p.x, end.x)
		if first != second || first == 0 {
			return cmp.Compare(first, second)
		}
	}
	n, _ := pred.Orient(s[0].point(), s[1].point(), p.point())
	return n
}
