package valid

import (
	"slices"

	"plumb/api"
	"plumb/seg"
)

// placeOf gives a point's place: the finite point whose patterns are not -0, so that places can be compared.
func placeOf(p api.Point) api.Point {
	const minusZero = 1 << 63
	if p.X == minusZero {
		p.X = 0
	}
	if p.Y == minusZero {
		p.Y = 0
	}
	return p
}

// corners gives the places through which a line or ring goes: the stretches' ends, each stretch beginning where the one
// ahead of it ends.
func corners(l []api.Point) []api.Point {
	var out []api.Point
	for _, p := range l {
		out = append(out, placeOf(p))
	}
	return slices.Compact(out)
}

// stretches gives the stretches' numbers.
func stretches(l []api.Point) []int {
	var out []int
	for i := 1; i < len(l); i++ {
		if placeOf(l[i-1]) != placeOf(l[i]) {
			out = append(out, i-1)
		}
	}
	return out
}

// lineFlaw gives the flaw of a line string.
func lineFlaw(l []api.Point) api.Flaw {
	switch {
	case len(l) == 1:
		return api.Flaw{Kind: api.FlawFew}
	case len(corners(l)) == 1:
		return api.Flaw{Kind: api.FlawTwice, Where: l[0]}
	}
	return api.Flaw{}
}

// ringFlaw gives the first flaw of a ring by itself.
func ringFlaw(r []api.Point) api.Flaw {
	last, around := len(r)-1, corners(r)
	switch {
	case len(r) < 4:
		return api.Flaw{Kind: api.FlawFew}
	case placeOf(r[0]) != placeOf(r[last]):
		return api.Flaw{Kind: api.FlawOpen, Spot: last, Where: r[last]}
	case len(around) == 1:
		return api.Flaw{Kind: api.FlawTwice, Where: r[0]}
	}
	// Not refused: there are at most api.MaxRing corners.
	pairs, _ := seg.Pairs(around)
	if len(pairs) == 0 {
		return api.Flaw{}
	}
	spot := stretches(r)[pairs[0][0]]
	return api.Flaw{Kind: api.FlawSelf, Spot: spot, Where: r[spot]}
}
