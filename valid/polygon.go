package valid

import "plumb/api"

// loopsOf gives the loops of rings without a flaw.
func loopsOf(rings [][]api.Point) []loop {
	var out []loop
	for _, r := range rings {
		out = append(out, corners(r))
	}
	return out
}

// polygonFlaw gives the first flaw of a polygon.
func polygonFlaw(rings [][]api.Point) api.Flaw {
	for i, r := range rings {
		if f := ringFlaw(r); f.Kind != 0 {
			f.Ring = i
			return f
		}
	}
	loops := loopsOf(rings)
	meets := make([][][]api.Point, len(loops))
	for j := range loops {
		for i := range j {
			places, kind := pairFlaw(loops, i, j)
			if kind != 0 {
				return api.Flaw{Kind: kind, Ring: j, Spot: i}
			}
			meets[j] = append(meets[j], places)
		}
	}
	if hasRoundTrip(meets) {
		return api.Flaw{Kind: api.FlawCut}
	}
	return api.Flaw{}
}

// pairFlaw gives the kind of the flaw of the rings i and j of a polygon, i < j; without one the places at which they meet.
func pairFlaw(loops []loop, i int, j int) (places []api.Point, kind int) {
	l, m := loops[i], loops[j]
	places, cross := touches(l, m)
	switch {
	case cross:
		return nil, api.FlawCross
	case i == 0 && !l.holds(m):
		return nil, api.FlawOutside
	case i > 0 && (l.holds(m) || m.holds(l)):
		return nil, api.FlawNested
	}
	return places, 0
}

// hasRoundTrip tells whether there is a round trip among rings and places; meets[j][i] are the places at which the rings
// i < j meet.
func hasRoundTrip(meets [][][]api.Point) bool {
	// Rings that hang together by places have one group. A ring that comes to a group makes a round trip just if it meets it
	// in two places: all rings of the group that are met in one hang together by that place already.
	group := make([]int, len(meets))
	for j, of := range meets {
		by := map[int]api.Point{}
		for i, places := range of {
			for _, at := range places {
				if first, ok := by[group[i]]; ok && first != at {
					return true
				}
				by[group[i]] = at
			}
		}
		for i := range of {
			if _, ok := by[group[i]]; ok {
				group[i] = j
			}
		}
		group[j] = j
	}
	return false
}

// overlapFlaw gives the flaw of polygons that have none of their own.
func overlapFlaw(parts []api.Geom) api.Flaw {
	var all [][]loop
	for j, part := range parts {
		all = append(all, loopsOf(part.Rings))
		for i := range j {
			if overlap(all[i], all[j]) {
				return api.Flaw{Kind: api.FlawOverlap, Ring: j, Spot: i}
			}
		}
	}
	return api.Flaw{}
}

// overlap tells whether the insides of two polygons have a point in common, or their rings a stretch.
func overlap(p []loop, q []loop) bool {
	// The inside of each is in one piece. So, if the insides have no point in common, each polygon lies on one side of all
	// rings of the other, and none cross.
	for _, l := range p {
		for _, m := range q {
			if _, cross := touches(l, m); cross {
				return true
			}
		}
	}
	return covers(p, q) || covers(q, p)
}

// covers tells whether the shell of q, whose rings cross none of p's, has a point inside of p.
func covers(p []loop, q []loop) bool {
	if len(p) == 0 || len(q) == 0 {
		return false
	}
	for i, l := range p {
		if isShell := i == 0; l.holds(q[0]) != isShell {
			return false
		}
	}
	return true
}
