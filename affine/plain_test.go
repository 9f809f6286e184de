package affine_test

import (
	"math"
	"math/big"
	"slices"

	"plumb/api"
	"plumb/sample"
)

// six is what Map takes, by the library's rationals.
type six [6]*big.Rat

// rats gives it as Rats.
func (m six) rats() [6]api.Rat {
	var out [6]api.Rat
	for i, q := range m {
		out[i] = ratOf(q)
	}
	return out
}

// ratOf gives a number as a Rat.
func ratOf(q *big.Rat) api.Rat {
	return api.Rat{Neg: q.Sign() < 0, Num: sample.Words(new(big.Int).Abs(q.Num())), Den: sample.Words(q.Denom())}
}

// ratio gives a number by its text.
func ratio(s string) *big.Rat {
	out, ok := new(big.Rat).SetString(s)
	if !ok {
		panic(s)
	}
	return out
}

// two gives two to the n.
func two(n int) *big.Rat {
	out := new(big.Rat).SetInt(new(big.Int).Lsh(big.NewInt(1), uint(max(n, -n))))
	if n < 0 {
		out.Inv(out)
	}
	return out
}

// sum gives the sum of numbers.
func sum(l ...*big.Rat) *big.Rat {
	out := new(big.Rat)
	for _, q := range l {
		out.Add(out, q)
	}
	return out
}

// minus gives a number with the other sign.
func minus(q *big.Rat) *big.Rat {
	return new(big.Rat).Neg(q)
}

// isLong tells whether a natural number is too long (doc/05-rat.md).
func isLong(l ...*big.Int) bool {
	return slices.ContainsFunc(l, func(n *big.Int) bool { return n.BitLen() > 64*api.MaxLimbs })
}

// times, by and plus are the product, quotient and sum of two numbers, and whether P5.3 and P5.4 refuse them.
func times(p, q *big.Rat) (*big.Rat, bool) {
	num, den := new(big.Int).Mul(p.Num(), q.Num()), new(big.Int).Mul(p.Denom(), q.Denom())
	return new(big.Rat).SetFrac(num, den), isLong(num, den)
}

func by(p, q *big.Rat) (*big.Rat, bool) {
	num, den := new(big.Int).Mul(p.Num(), q.Denom()), new(big.Int).Mul(p.Denom(), q.Num())
	return new(big.Rat).SetFrac(num, den), isLong(num, den)
}

func plus(p, q *big.Rat) (*big.Rat, bool) {
	n, m := new(big.Int).Mul(p.Num(), q.Denom()), new(big.Int).Mul(q.Num(), p.Denom())
	both, d := new(big.Int).Add(n, m), new(big.Int).Mul(p.Denom(), q.Denom())
	return new(big.Rat).SetFrac(both, d), isLong(n, m, d) || n.Sign()*m.Sign() >= 0 && isLong(both)
}

// rounded gives the pattern of a number, or an error.
func rounded(q *big.Rat, huge bool) (uint64, api.Errno) {
	f, _ := q.Float64()
	switch {
	case huge:
		return 0, api.ErrHuge
	case math.IsInf(f, 0):
		return 0, api.ErrAffine
	}
	return math.Float64bits(f), api.OK
}

// plainRow is a x + b y + c as P26.1 reckons it.
func plainRow(a, b, c *big.Rat, p api.Point) (uint64, api.Errno) {
	x, f := times(a, sample.Value(p.X))
	y, g := times(b, sample.Value(p.Y))
	both, h := plus(x, y)
	all, i := plus(both, c)
	return rounded(all, f || g || h || i)
}

// plainMap is P26.1 of a point.
func (m six) plainMap(p api.Point) (api.Point, api.Errno) {
	x, e := plainRow(m[0], m[1], m[2], p)
	y, f := plainRow(m[3], m[4], m[5], p)
	if e != api.OK {
		return api.Point{}, e
	}
	return api.Point{X: x, Y: y}, f
}

// plainStep is the coordinate that P26.2 makes of one.
func plainStep(b uint64, step *big.Rat) (uint64, api.Errno) {
	q, f := by(sample.Value(b), step)
	// The numbers around it: of these the nearest.
	low := new(big.Int).Div(q.Num(), q.Denom())
	k := new(big.Rat).SetInt(low)
	next := sum(k, big.NewRat(1, 1))
	under, over := sum(q, minus(k)), sum(next, minus(q))
	if n := over.Cmp(under); n < 0 || n == 0 && low.Bit(0) == 1 {
		k = next
	}
	at, g := times(k, step)
	return rounded(at, f || g)
}

// plainSnap is P26.2 of a point, by a step.
func plainSnap(step *big.Rat) func(api.Point) (api.Point, api.Errno) {
	return func(p api.Point) (api.Point, api.Errno) {
		x, e := plainStep(p.X, step)
		y, f := plainStep(p.Y, step)
		if e != api.OK {
			return api.Point{}, e
		}
		return api.Point{X: x, Y: y}, f
	}
}

// plainMoved gives a tree whose points are moved, or the number of the first geometry that can't be, of which ahead is the
// first.
func plainMoved(g api.Geom, ahead int, move func(api.Point) (api.Point, api.Errno)) (api.Geom, int, api.Errno) {
	out := api.Geom{Kind: g.Kind}
	for _, p := range g.Line {
		q, e := move(p)
		if e != api.OK {
			return api.Geom{}, ahead, e
		}
		out.Line = append(out.Line, q)
	}
	for _, r := range g.Rings {
		line, at, e := plainMoved(api.Geom{Line: r}, ahead, move)
		if e != api.OK {
			return api.Geom{}, at, e
		}
		out.Rings = append(out.Rings, line.Line)
	}
	next := ahead + 1
	for _, part := range g.Parts {
		h, at, e := plainMoved(part, next, move)
		if e != api.OK {
			return api.Geom{}, at, e
		}
		out.Parts = append(out.Parts, h)
		next += plainCount(part)
	}
	return out, 0, api.OK
}

// plainCount tells how many geometries a tree has.
func plainCount(g api.Geom) int {
	out := 1
	for _, part := range g.Parts {
		out += plainCount(part)
	}
	return out
}

// plainFar is the square of the distance of p from the stretch from a to b: the least of those of the places at 0, at 1, and
// where the way from p is upright.
func plainFar(a, b, p api.Point) *big.Rat {
	from, way := sample.ExactOf(a), sample.ExactOf(b).Less(sample.ExactOf(a))
	ts := []*big.Rat{new(big.Rat), big.NewRat(1, 1)}
	if long := way.Dot(way); long.Sign() > 0 {
		t := new(big.Rat).Quo(way.Dot(sample.ExactOf(p).Less(from)), long)
		if t.Sign() > 0 && t.Cmp(ts[1]) < 0 {
			ts = append(ts, t)
		}
	}
	var out *big.Rat
	for _, t := range ts {
		there := from.Plus(t, way).Less(sample.ExactOf(p))
		if d := there.Dot(there); out == nil || d.Cmp(out) < 0 {
			out = d
		}
	}
	return out
}

// isRefused tells whether P5.5 refuses to compare two numbers.
func isRefused(p, q *big.Rat) bool {
	n, m := new(big.Int).Mul(p.Num(), q.Denom()), new(big.Int).Mul(q.Num(), p.Denom())
	return p.Sign() == q.Sign() && isLong(n, m)
}

// plainThin tells which points stay, as P26.3 says, and whether a square is refused: what is yet to be looked through are
// pairs of points that stay.
func plainThin(l []api.Point, square *big.Rat) (stays []int, huge bool) {
	last := len(l) - 1
	stays = append(stays, 0)
	due := [][2]int{{0, last}}
	for len(due) > 0 {
		from, to := due[0][0], due[0][1]
		due = due[1:]
		best := -1
		var far *big.Rat
		for i := to - 1; i > from; i-- {
			if d := plainFar(l[from], l[to], l[i]); far == nil || d.Cmp(far) >= 0 {
				best, far = i, d
			}
		}
		switch {
		case best < 0:
		case isRefused(far, square):
			return nil, true
		case far.Cmp(square) > 0:
			stays = append(stays, best)
			due = append(due, [2]int{best, to}, [2]int{from, best})
		}
	}
	if last > 0 {
		stays = append(stays, last)
	}
	slices.Sort(stays)
	return stays, false
}

// plainPattern is the order of patterns: 1, 0 or -1.
func plainPattern(a, b uint64) int {
	minus, other := a>>63 == 1, b>>63 == 1
	switch {
	case a == b:
		return 0
	case minus && !other, minus && a > b, !minus && !other && a < b:
		return -1
	}
	return 1
}

// plainLists compares lists element by element; the shorter is ahead.
func plainLists[T any](a, b []T, one func(T, T) int) int {
	for i := range a {
		if i == len(b) {
			return 1
		}
		if n := one(a[i], b[i]); n != 0 {
			return n
		}
	}
	if len(a) < len(b) {
		return -1
	}
	return 0
}

// plainPoints, plainRings and plainGeoms compare as P26.4 says.
func plainPoints(a, b []api.Point) int {
	return plainLists(a, b, func(p, q api.Point) int {
		if n := plainPattern(p.X, q.X); n != 0 {
			return n
		}
		return plainPattern(p.Y, q.Y)
	})
}

func plainGeoms(a, b api.Geom) int {
	kind := 0
	if a.Kind != b.Kind {
		kind = 1
		if a.Kind < b.Kind {
			kind = -1
		}
	}
	for _, n := range []int{kind, plainPoints(a.Line, b.Line), plainLists(a.Rings, b.Rings, plainPoints), plainLists(a.Parts, b.Parts, plainGeoms)} {
		if n != 0 {
			return n
		}
	}
	return 0
}

// plainTurn tells which way a ring turns.
func plainTurn(r []api.Point) int {
	area := new(big.Rat)
	for i := 1; i < len(r); i++ {
		area.Add(area, sample.ExactOf(r[i-1]).Cross(sample.ExactOf(r[i])))
	}
	return area.Sign()
}

// begun gives a ring begun at another of its points: its last point has the patterns of its first.
func begun(r []api.Point, i int) []api.Point {
	if len(r) == 1 {
		return slices.Clone(r)
	}
	there := r[:len(r)-1]
	return slices.Concat(there[i:], there[:i], there[i:i+1])
}

// back gives points the other way about.
func back(l []api.Point) []api.Point {
	out := slices.Clone(l)
	slices.Reverse(out)
	return out
}

// plainStart is the least way to write a ring that turns to the left or the right.
func plainStart(r []api.Point, left bool) []api.Point {
	var ways [][]api.Point
	turn := plainTurn(r)
	for i := range max(len(r)-1, 1) {
		there := begun(r, i)
		if turn == 0 || turn > 0 == left {
			ways = append(ways, there)
		}
		if turn == 0 || turn > 0 != left {
			ways = append(ways, back(there))
		}
	}
	return slices.MinFunc(ways, plainPoints)
}

// plainNormal is P26.5 of a tree all of whose rings are closed.
func plainNormal(g api.Geom) api.Geom {
	out := api.Geom{Kind: g.Kind, Line: g.Line}
	for i, r := range g.Rings {
		out.Rings = append(out.Rings, plainStart(r, i == 0))
	}
	for _, part := range g.Parts {
		out.Parts = append(out.Parts, plainNormal(part))
	}
	if len(out.Rings) > 0 {
		sorted(out.Rings[1:], plainPoints)
	}
	sorted(out.Parts, plainGeoms)
	return out
}

// sorted puts a list in order by changing neighbours about.
func sorted[T any](l []T, one func(T, T) int) {
	for i := range l {
		for j := i; j > 0 && one(l[j-1], l[j]) > 0; j-- {
			l[j-1], l[j] = l[j], l[j-1]
		}
	}
}

// plainOpen gives the number of the first polygon with a ring that is none; -1: there is none. Ahead of g stand so many.
func plainOpen(g api.Geom, ahead int) int {
	for _, r := range g.Rings {
		if len(r) > api.MaxRing || sample.ExactOf(r[0]).Cmp(sample.ExactOf(r[len(r)-1])) != 0 {
			return ahead
		}
	}
	next := ahead + 1
	for _, part := range g.Parts {
		if at := plainOpen(part, next); at >= 0 {
			return at
		}
		next += plainCount(part)
	}
	return -1
}
