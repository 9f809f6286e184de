package valid

import (
	"plumb/api"
	"plumb/pred"
	"plumb/ring"
	"plumb/seg"
)

// Kinds of meetings, as seg tells them.
const (
	apart = iota
	inOnePlace
	alongStretch
)

// loop is a ring without a flaw by its corners, the last one the first again.
//
// So it divides the plane into two, its inside and its outside, and so it does near each of its places: what goes off
// there to its left is on one side of it, what goes off to its right on the other.
type loop []api.Point

// bend is how a loop goes through a place: from where and to where.
type bend struct {
	before, at, after api.Point
}

// bend gives that at a place of the loop's stretch k.
func (l loop) bend(k int, at api.Point) bend {
	n := len(l) - 1
	b := bend{l[k], at, l[k+1]}
	if at == b.before {
		b.before = l[(k+n-1)%n]
	}
	if at == b.after {
		b.after = l[(k+2)%n]
	}
	return b
}

// left tells whether what goes from the bend's place towards p, and not along the loop, goes off to the left.
func (b bend) left(p api.Point) bool {
	first, second := leftOf(b.before, b.at, p), leftOf(b.at, b.after, p)
	if leftOf(b.before, b.at, b.after) {
		return first && second
	}
	return first || second
}

// leftOf tells whether p lies left of the line from a to b.
func leftOf(a api.Point, b api.Point, p api.Point) bool {
	// Not refused: all points of a tree are finite.
	side, _ := pred.Orient(a, b, p)
	return side > 0
}

// touches gives the places at which two loops meet; or tells that they cross, or share a stretch. A place may be there
// more than once.
//
// Each loop has points on both sides of the other just if it goes from one side to the other somewhere, and so they cross.
func touches(l loop, m loop) (places []api.Point, cross bool) {
	for i := range len(l) - 1 {
		for j := range len(m) - 1 {
			met, _ := seg.Meet(l[i], l[i+1], m[j], m[j+1])
			switch {
			case met.Kind == apart:
				continue
			case met.Kind == alongStretch || met.Proper:
				return nil, true
			}
			// What isn't proper is a corner of either, and told as it is.
			here, there := l.bend(i, met.P), m.bend(j, met.P)
			if here.left(there.before) != here.left(there.after) {
				return nil, true
			}
			places = append(places, met.P)
		}
	}
	return places, false
}

// holds tells on which side of the loop another one is that does not cross it: true: it has a point inside, false: it has
// one outside.
func (l loop) holds(m loop) bool {
	for _, p := range m {
		if side, _ := ring.Side(l, p); side != 0 {
			return side > 0
		}
	}
	// All corners of m lie on the loop: it is told by how m goes off from the first one.
	turn, _ := ring.Turn(l)
	for k := range len(l) - 1 {
		if on, _ := pred.Between(l[k], l[k+1], m[0]); on {
			return l.bend(k, m[0]).left(m[1]) == (turn > 0)
		}
	}
	return false // not come to: that corner is on one of the stretches
}
