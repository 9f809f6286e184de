package ring_test

import (
	"math"
	"math/big"
	"slices"
	"sync"
	"testing"

	"plumb/api"
	"plumb/ring"
	"plumb/sample"
)

// told is what of a ring and a point hangs on places alone.
type told struct {
	area    *big.Rat
	turn    int
	winding int
	on      bool
	side    int
}

// ask gives it, and fails where a call is refused.
func ask(t *testing.T, r []api.Point, p api.Point) told {
	t.Helper()
	area, e := ring.Area2(r)
	turn, f := ring.Turn(r)
	n, on, g := ring.Winding(r, p)
	side, h := ring.Side(r, p)
	if e != api.OK || f != api.OK || g != api.OK || h != api.OK {
		t.Fatalf("of %x and %x: %d, %d, %d, %d", r, p, e, f, g, h)
	}
	return told{sample.Ratio(area), turn, n, on, side}
}

// is tells whether both are the same.
func (a told) is(b told) bool {
	equal := a.area.Cmp(b.area) == 0
	a.area, b.area = nil, nil
	return equal && a == b
}

// turned is what a ring's other way about has.
func (a told) turned() told {
	a.area, a.turn, a.winding = new(big.Rat).Neg(a.area), -a.turn, -a.winding
	return a
}

// mirrored gives points with X and Y changed about.
func mirrored(l []api.Point) []api.Point {
	out := slices.Clone(l)
	for i, p := range l {
		out[i] = api.Point{X: p.Y, Y: p.X}
	}
	return out
}

// P24.1: as the words say, by triangles.
func TestArea2AsTheWordsSay(t *testing.T) {
	rule := sample.Rule(241)
	var turns [3]int
	for range 3000 {
		r := loop(&rule, 1+rule.Below(10))
		want := plainArea(r)
		if got, e := ring.Area2(r); e != api.OK || !sample.IsRat(got, want) {
			t.Fatalf("P24.1: Area2(%x) = %v, %d, want %v", r, got, e, want)
		}
		turn, e := ring.Turn(r)
		if e != api.OK || turn != want.Sign() {
			t.Fatalf("P24.1: Turn(%x) = %d, %d, want %d", r, turn, e, want.Sign())
		}
		turns[turn+1]++
	}
	if slices.Min(turns[:]) < 400 {
		t.Errorf("too few of a turn: %d", turns)
	}
}

// P24.2, P24.3: as the words say, by a way from the point that goes through none of the ring's.
func TestWindingAndSideAsTheWordsSay(t *testing.T) {
	rule := sample.Rule(242)
	var on, out, in, more, even int
	for range 6000 {
		r := loop(&rule, 1+rule.Below(12))
		p := near(&rule, r)
		got := ask(t, r, p)
		if sample.ExactOf(p).OnRing(r) {
			if got.winding != 0 || !got.on || got.side != 0 {
				t.Fatalf("P24.2, P24.3: Winding(%x, %x) = %d, %t, Side %d, but it is on the ring", r, p, got.winding, got.on, got.side)
			}
			on++
			continue
		}
		turns, edges := sample.ExactOf(p).Winding(r)
		side := edges%2*2 - 1
		if got.winding != turns || got.on || got.side != side {
			t.Fatalf("P24.2, P24.3: Winding(%x, %x) = %d, %t, Side %d, want %d, %d", r, p, got.winding, got.on, got.side, turns, side)
		}
		switch {
		case side > 0:
			in++
		case turns != 0:
			even++
		default:
			out++
		}
		if turns*turns > 1 {
			more++
		}
	}
	if min(on, out, in) < 500 || min(more, even) < 75 {
		t.Errorf("too few of a kind: %d on, %d out, %d in, %d gone round more than once, %d evenly", on, out, in, more, even)
	}
}

// P24.4: as the words say; a point outside of the box is outside of the ring (P24.7).
func TestBoxAsTheWordsSay(t *testing.T) {
	rule := sample.Rule(244)
	for range 3000 {
		l := rule.OtherZeros(rule.Crowd(1 + rule.Below(10)))
		low, high, e := ring.Box(l)
		wantLow, wantHigh := plainBox(l)
		if low != wantLow || high != wantHigh || e != api.OK {
			t.Fatalf("P24.4: Box(%x) = %x, %x, %d, want %x, %x", l, low, high, e, wantLow, wantHigh)
		}
		r := append(l, l[0])
		p := near(&rule, r)
		at, least, most := sample.ExactOf(p), sample.ExactOf(low), sample.ExactOf(high)
		off := at.X.Cmp(least.X) < 0 || at.X.Cmp(most.X) > 0 || at.Y.Cmp(least.Y) < 0 || at.Y.Cmp(most.Y) > 0
		if got := ask(t, r, p); off && (got.side != -1 || got.winding != 0) {
			t.Fatalf("P24.7: Side(%x, %x) = %d, Winding %d, outside of the box", r, p, got.side, got.winding)
		}
	}
}

// P24.5: as the words say, by triangles, rounded by the library.
func TestCentreAsTheWordsSay(t *testing.T) {
	rule := sample.Rule(245)
	var flat, over, full int
	for range 3000 {
		r := loop(&rule, 1+rule.Below(10))
		want, wantE := plainCentre(r).Rounded(), api.OK
		if !finite(want) {
			want, wantE = api.Point{}, api.ErrOverflow
			over++
		}
		if got, e := ring.Centre(r); got != want || e != wantE {
			t.Fatalf("P24.5: Centre(%x) = %x, %d, want %x, %d", r, got, e, want, wantE)
		}
		if plainArea(r).Sign() == 0 {
			flat++
		} else {
			full++
		}
	}
	if flat < 400 || full < 1000 {
		t.Errorf("too few of a kind: %d flat, %d full, %d too far", flat, full, over)
	}
}

// P24.6, P24.7: as the words say; the same from wherever the ring is begun, and turned round; and Start of Start.
func TestStartAsTheWordsSay(t *testing.T) {
	rule := sample.Rule(246)
	for range 2500 {
		r := rule.OtherZeros(loop(&rule, 1+rule.Below(10)))
		left := rule.Below(2) == 0
		want := plainStart(r, left)
		got, e := ring.Start(r, left)
		if e != api.OK || !slices.Equal(got, want) {
			t.Fatalf("P24.6: Start(%x, %t) = %x, %d, want %x", r, left, got, e, want)
		}
		closed := begun(r, 0)
		other := begun(closed, rule.Below(max(len(r)-1, 1)))
		for _, l := range [][]api.Point{got, closed, other, back(closed), back(other)} {
			if again, e := ring.Start(l, left); e != api.OK || !slices.Equal(again, want) {
				t.Fatalf("P24.7: Start(%x, %t) = %x, %d, but Start(%x) is %x", l, left, again, e, r, want)
			}
		}
		if turn, _ := ring.Turn(got); turn != 0 && (turn > 0) != left {
			t.Fatalf("P24.6: Turn of Start(%x, %t) is %d", r, left, turn)
		}
	}
}

// P24.7: begun elsewhere, turned round, with other zeros, and mirrored.
func TestFromAllSides(t *testing.T) {
	rule := sample.Rule(2471)
	for range 2500 {
		r := loop(&rule, 1+rule.Below(10))
		p := near(&rule, r)
		want := ask(t, r, p)
		for _, l := range [][]api.Point{begun(r, rule.Below(max(len(r)-1, 1))), rule.OtherZeros(r)} {
			if got := ask(t, l, p); !got.is(want) {
				t.Fatalf("P24.7: of %x and %x: %+v, of %x: %+v", r, p, want, l, got)
			}
			if got := ask(t, back(l), rule.OtherZeros([]api.Point{p})[0]); !got.is(want.turned()) {
				t.Fatalf("P24.7: of %x and %x: %+v, of %x turned round: %+v", r, p, want, l, got)
			}
		}
		if got := ask(t, mirrored(r), api.Point{X: p.Y, Y: p.X}); !got.is(want.turned()) {
			t.Fatalf("P24.7: of %x and %x: %+v, mirrored: %+v", r, p, want, got)
		}
	}
}

// changed gives points each of whose numbers is what a function makes of it.
func changed(l []api.Point, x, y func(float64) float64) []api.Point {
	var out []api.Point
	for _, p := range l {
		out = append(out, at(x(math.Float64frombits(p.X)), y(math.Float64frombits(p.Y))))
	}
	return out
}

// P24.7: moved and scaled, as long as nothing is rounded.
func TestMovedAndScaled(t *testing.T) {
	rule := sample.Rule(2472)
	var turns, sides [3]int
	for range 2000 {
		var l []api.Point // a ring, and a point
		for range 2 + rule.Below(9) {
			l = append(l, sample.At(rule.Below(7)-3, rule.Below(7)-3))
		}
		l = append(l, l[0], sample.At(rule.Below(5)-2, rule.Below(5)-2))
		n := len(l) - 1
		want := ask(t, l[:n], l[n])
		move := func(by int) func(float64) float64 {
			return func(x float64) float64 { return x + float64(by)/1024 }
		}
		m := changed(l, move(rule.Below(1<<40)-1<<39), move(rule.Below(1<<40)-1<<39))
		if got := ask(t, m[:n], m[n]); !got.is(want) {
			t.Fatalf("P24.7: of %x and %x: %+v, of %x and %x: %+v", l[:n], l[n], want, m[:n], m[n], got)
		}
		power := math.Exp2(float64(rule.Below(2090) - 1070))
		scale := func(x float64) float64 { return x * power }
		m = changed(l, scale, scale)
		size := new(big.Rat).SetFloat64(power)
		want.area.Mul(want.area, size).Mul(want.area, size)
		if got := ask(t, m[:n], m[n]); !got.is(want) {
			t.Fatalf("P24.7: of %x and %x, scaled: %+v, of %x and %x: %+v", l[:n], l[n], want, m[:n], m[n], got)
		}
		turns[want.turn+1]++
		sides[want.side+1]++
	}
	if slices.Min(turns[:]) < 200 || slices.Min(sides[:]) < 200 {
		t.Errorf("too few of a kind: %d, %d", turns, sides)
	}
}

// P24.7: two rings that share an edge, one way and the other, and the one without it.
func TestSharedEdge(t *testing.T) {
	rule := sample.Rule(2473)
	for range 1500 {
		l := rule.Crowd(4 + rule.Below(8))
		a, b, n := l[0], l[1], 2+rule.Below(len(l)-2)
		there, rest := slices.Concat([]api.Point{b}, l[2:n], []api.Point{a}), slices.Concat([]api.Point{a}, l[n:], []api.Point{b})
		first, second := append(slices.Clone(there), b), append(slices.Clone(rest), a)
		both := slices.Concat(there, rest[1:])
		p := near(&rule, both)
		one, two, sum := ask(t, first, p), ask(t, second, p), ask(t, both, p)
		if one.area.Add(one.area, two.area).Cmp(sum.area) != 0 {
			t.Fatalf("P24.7: Area2(%x) = %v, of its two parts %v", both, sum.area, one.area)
		}
		if !one.on && !two.on && one.winding+two.winding != sum.winding {
			t.Fatalf("P24.7: Winding(%x, %x) = %d, of its two parts %d, %d", both, p, sum.winding, one.winding, two.winding)
		}
	}
}

// P24.1 to P24.6: of as many points as a ring may have: a round one, one whose exponents lie far apart, one place.
func TestMostPoints(t *testing.T) {
	rule := sample.Rule(248)
	round, wild := make([]api.Point, api.MaxRing), make([]api.Point, api.MaxRing)
	for i := range api.MaxRing - 1 {
		v := float64(i - api.MaxRing/2)
		round[i], wild[i] = at(v, v*v), api.Point{X: rule.Next() &^ (1 << 62), Y: rule.Next() &^ (1 << 52)}
	}
	round[api.MaxRing-1], wild[api.MaxRing-1] = round[0], wild[0]
	for _, r := range [][]api.Point{round, wild, make([]api.Point, api.MaxRing)} {
		area := plainArea(r)
		for range 8 {
			p := near(&rule, r)
			want := told{area: area, turn: area.Sign(), on: sample.ExactOf(p).OnRing(r)}
			if !want.on {
				turns, edges := sample.ExactOf(p).Winding(r)
				want.winding, want.side = turns, edges%2*2-1
			}
			if got := ask(t, r, p); !got.is(want) {
				t.Errorf("P24.1 to P24.3: of %d points and %x: %+v, want %+v", len(r), p, got, want)
			}
		}
		if c, e := ring.Centre(r); e != api.OK || c != plainCentre(r).Rounded() {
			t.Errorf("P24.5: Centre of %d points: %x, %d", len(r), c, e)
		}
		for _, left := range []bool{false, true} {
			if l, e := ring.Start(r, left); e != api.OK || !slices.Equal(l, plainStart(r, left)) {
				t.Errorf("P24.6: Start of %d points, %t: %x, %d", len(r), left, l, e)
			}
		}
	}
}

// P24.8, P0.2: points stay as they are with their spare room, and an answer is nobody else's memory.
func TestMemory(t *testing.T) {
	rule := sample.Rule(2481)
	for range 500 {
		r := sample.RoomyPoints(loop(&rule, 1+rule.Below(9)))
		whole := slices.Clone(r[:cap(r)])
		for _, left := range []bool{true, false} {
			got, _ := ring.Start(r, left)
			want := slices.Clone(got)
			room := got[:cap(got)]
			for i := range room {
				room[i] = at(77, 77)
			}
			if again, _ := ring.Start(r, left); !slices.Equal(again, want) {
				t.Fatalf("P24.8: Start(%x) = %x, before %x", r, again, want)
			}
		}
		ask(t, r, r[0])
		ring.Box(r)
		ring.Centre(r)
		if !slices.Equal(r[:cap(r)], whole) {
			t.Fatalf("P24.8: what is handed in is changed: %x, before %x", r[:cap(r)], whole)
		}
		calls := func([][]uint64) [][]uint64 {
			a, _ := ring.Area2(r)
			b, _ := ring.Area2(r)
			return [][]uint64{a.Num, a.Den, b.Num, b.Den}
		}
		if fault := sample.Memory(calls); fault != "" {
			t.Fatalf("P24.8: Area2(%x): %s", r, fault)
		}
	}
}

// P0.1: many at once answer as one does.
func TestManyAtOnce(t *testing.T) {
	rule := sample.Rule(240)
	r := loop(&rule, 60)
	want := ask(t, r, at(1, 1))
	start, _ := ring.Start(r, true)
	var group sync.WaitGroup
	for range 8 {
		group.Go(func() {
			for range 5 {
				side, e := ring.Side(r, at(1, 1))
				if area, f := ring.Area2(r); side != want.side || e != api.OK || f != api.OK || !sample.IsRat(area, want.area) {
					t.Errorf("P0.1: Side = %d, %d, Area2 = %v, %d, want %+v", side, e, area, f, want)
				}
				if l, e := ring.Start(r, true); e != api.OK || !slices.Equal(l, start) {
					t.Errorf("P0.1: Start = %x, %d, want %x", l, e, start)
				}
			}
		})
	}
	group.Wait()
}
