package seg_test

import (
	"math"
	"math/big"

	"plumb/api"
	"plumb/sample"
)

const (
	great = 0x1p1023
	least = 0x1p-1074
	most  = math.MaxFloat64
)

var zero = math.Copysign(0, -1) // -0

// at gives a point by two floats.
func at(x, y float64) api.Point {
	return sample.Spot(x, y)
}

// row gives points by floats, two a point.
func row(l ...float64) []api.Point {
	return sample.Spots(l...)
}

// plainMeeting is a meeting by exact places.
type plainMeeting struct {
	kind   int
	proper bool
	p, q   sample.Exact
}

// answer gives it as Meet should.
func (m plainMeeting) answer() api.Meeting {
	out := api.Meeting{Kind: m.kind, Proper: m.proper}
	if m.kind > 0 {
		out.P = m.p.Rounded()
	}
	if m.kind > 1 {
		out.Q = m.q.Rounded()
	}
	return out
}

// plainMeet asks which t from 0 to 1 of the first stretch, a + t (b - a), are on the second.
func plainMeet(a, b, c, d api.Point) plainMeeting {
	p, q, r, s := sample.ExactOf(a), sample.ExactOf(b), sample.ExactOf(c), sample.ExactOf(d)
	v, w := q.Less(p), s.Less(r)
	area := v.Cross(w)
	switch {
	case p.Cmp(q) == 0:
		return plainTouch(r, s, p)
	case r.Cmp(s) == 0:
		return plainTouch(p, q, r)
	case area.Sign() != 0:
		t := new(big.Rat).Quo(r.Less(p).Cross(w), area)
		u := new(big.Rat).Quo(r.Less(p).Cross(v), area)
		if !within(t) || !within(u) {
			return plainMeeting{}
		}
		return plainMeeting{kind: 1, proper: inside(t) && inside(u), p: p.Plus(t, v)}
	case v.Cross(r.Less(p)).Sign() != 0:
		return plainMeeting{}
	}
	from, to := share(v, r.Less(p)), share(v, s.Less(p))
	if from.Cmp(to) > 0 {
		from, to = to, from
	}
	if from.Sign() < 0 {
		from = new(big.Rat)
	}
	if to.Cmp(one()) > 0 {
		to = one()
	}
	return plainRange(p.Plus(from, v), p.Plus(to, v), from.Cmp(to))
}

// plainRange is the meeting of all places between two, as the first stands to the second on the way.
func plainRange(p, q sample.Exact, order int) plainMeeting {
	switch {
	case order > 0:
		return plainMeeting{}
	case order == 0:
		return plainMeeting{kind: 1, p: p}
	case p.Cmp(q) > 0:
		p, q = q, p
	}
	return plainMeeting{kind: 2, p: p, q: q}
}

// plainTouch is the meeting of a stretch and one place.
func plainTouch(p, q, place sample.Exact) plainMeeting {
	v, w := place.Less(p), place.Less(q)
	if v.Cross(w).Sign() != 0 || v.Dot(w).Sign() > 0 {
		return plainMeeting{}
	}
	return plainMeeting{kind: 1, p: place}
}

// one is 1.
func one() *big.Rat {
	return big.NewRat(1, 1)
}

// within tells whether t is from 0 to 1.
func within(t *big.Rat) bool {
	return t.Sign() >= 0 && t.Cmp(one()) <= 0
}

// inside tells whether t is between 0 and 1, neither of both.
func inside(t *big.Rat) bool {
	return t.Sign() > 0 && t.Cmp(one()) < 0
}

// share gives how much of the way v another way is that goes along it.
func share(v, w sample.Exact) *big.Rat {
	return new(big.Rat).Quo(v.Dot(w), v.Dot(v))
}

// plainPairs is P23.4 as its words say.
func plainPairs(l []api.Point) [][2]int {
	var out [][2]int
	place := func(i int) sample.Exact { return sample.ExactOf(l[i]) }
	for i := range len(l) - 1 {
		for j := i + 1; j < len(l)-1; j++ {
			m := plainMeet(l[i], l[i+1], l[j], l[j+1])
			has := m.kind > 0
			if j == i+1 {
				has = m.kind == 2 || m.kind == 1 && m.p.Cmp(place(j)) != 0
			}
			if i == 0 && j == len(l)-2 && len(l) > 3 && place(0).Cmp(place(len(l)-1)) == 0 {
				has = m.kind == 2 || m.kind == 1 && m.p.Cmp(place(0)) != 0
			}
			if has {
				out = append(out, [2]int{i, j})
			}
		}
	}
	return out
}

// isFoot tells whether f is the place of the stretch from a to b that is nearest to p: it is on the stretch, and from it
// neither way along the stretch leads nearer to p.
func isFoot(f sample.Exact, a, b, p api.Point) bool {
	q, r := sample.ExactOf(a), sample.ExactOf(b)
	off := sample.ExactOf(p).Less(f)
	return plainTouch(q, r, f).kind == 1 && off.Dot(q.Less(f)).Sign() <= 0 && off.Dot(r.Less(f)).Sign() <= 0
}
