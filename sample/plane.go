package sample

import (
	"math/big"
	"slices"

	"plumb/api"
)

// Meeting tells how two stretches meet, by exact places: Kind 0 not at all, 1 in P, 2 from P to Q; Proper: inside of both.
type Meeting struct {
	Kind   int
	Proper bool
	P, Q   Exact
}

// Meet asks which t from 0 to 1 of the stretch from a to b, a + t (b - a), are on that from c to d.
func Meet(a, b, c, d api.Point) Meeting {
	p, q, r, s := ExactOf(a), ExactOf(b), ExactOf(c), ExactOf(d)
	v, w := q.Less(p), s.Less(r)
	area := v.Cross(w)
	switch {
	case p.Cmp(q) == 0:
		return touch(r, s, p)
	case r.Cmp(s) == 0:
		return touch(p, q, r)
	case area.Sign() != 0:
		t := new(big.Rat).Quo(r.Less(p).Cross(w), area)
		u := new(big.Rat).Quo(r.Less(p).Cross(v), area)
		if !within(t) || !within(u) {
			return Meeting{}
		}
		return Meeting{Kind: 1, Proper: inside(t) && inside(u), P: p.Plus(t, v)}
	case v.Cross(r.Less(p)).Sign() != 0:
		return Meeting{}
	}
	from, to := share(v, r.Less(p)), share(v, s.Less(p))
	if from.Cmp(to) > 0 {
		from, to = to, from
	}
	if from.Sign() < 0 {
		from = new(big.Rat)
	}
	if to.Cmp(one()) > 0 {
		to = one()
	}
	return along(p.Plus(from, v), p.Plus(to, v), from.Cmp(to))
}

// along is the meeting of all places between two, as the first stands to the second on the way.
func along(p, q Exact, order int) Meeting {
	switch {
	case order > 0:
		return Meeting{}
	case order == 0:
		return Meeting{Kind: 1, P: p}
	case p.Cmp(q) > 0:
		p, q = q, p
	}
	return Meeting{Kind: 2, P: p, Q: q}
}

// touch is the meeting of a stretch and one place.
func touch(p, q, place Exact) Meeting {
	if !place.On(p, q) {
		return Meeting{}
	}
	return Meeting{Kind: 1, P: place}
}

// On tells whether a place is on the stretch between two.
func (p Exact) On(a, b Exact) bool {
	v, w := a.Less(p), b.Less(p)
	return v.Cross(w).Sign() == 0 && v.Dot(w).Sign() <= 0
}

// one is 1.
func one() *big.Rat {
	return big.NewRat(1, 1)
}

// within tells whether t is from 0 to 1.
func within(t *big.Rat) bool {
	return t.Sign() >= 0 && t.Cmp(one()) <= 0
}

// inside tells whether t is between 0 and 1, neither of both.
func inside(t *big.Rat) bool {
	return t.Sign() > 0 && t.Cmp(one()) < 0
}

// share gives how much of the way v another way is that goes along it.
func share(v, w Exact) *big.Rat {
	return new(big.Rat).Quo(v.Dot(w), v.Dot(v))
}

// OnRing tells whether a place is on a ring's line.
func (p Exact) OnRing(r []api.Point) bool {
	if ExactOf(r[0]).Cmp(p) == 0 {
		return true
	}
	for i := 1; i < len(r); i++ {
		if p.On(ExactOf(r[i-1]), ExactOf(r[i])) {
			return true
		}
	}
	return false
}

// Winding tells how many edges of a ring cross a way from p, which isn't on it, that goes through none of its points: to
// the left ahead of p counting 1, to the right -1; and how many do at all.
func (p Exact) Winding(r []api.Point) (turns int, edges int) {
	way := slant(r, p)
	for i := 1; i < len(r); i++ {
		v, w := ExactOf(r[i-1]).Less(p), ExactOf(r[i]).Less(p)
		to := way.Cross(w).Sign()
		// It is crossed ahead of p just if p is on the left of an edge that goes to the left.
		if way.Cross(v).Sign() != to && v.Cross(w).Sign() == to {
			turns += to
			edges++
		}
	}
	return turns, edges
}

// slant gives a way from p, which isn't on the ring, that goes through no point of it, neither ahead nor behind.
func slant(r []api.Point, p Exact) Exact {
	for n := int64(1); ; n++ {
		way := Exact{X: one(), Y: big.NewRat(1, n)}
		hits := func(q api.Point) bool { return way.Cross(ExactOf(q).Less(p)).Sign() == 0 }
		if !slices.ContainsFunc(r, hits) {
			return way
		}
	}
}
