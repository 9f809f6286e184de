package ring_test

import (
	"math"
	"slices"
	"testing"

	"plumb/api"
	"plumb/rat"
	"plumb/ring"
	"plumb/sample"
)

var (
	square = row(0, 0, 4, 0, 4, 4, 0, 4, 0, 0)
	bow    = row(0, 0, 4, 4, 4, 0, 0, 4, 0, 0)
	twice  = slices.Concat(square, square[1:])
)

// P24.1
func TestArea2AndTurn(t *testing.T) {
	for _, c := range []struct {
		r    []api.Point
		want string
		turn int
	}{
		{square, "32", 1},
		{back(square), "-32", -1},
		{twice, "64", 1},
		{bow, "0", 0},
		{row(0, 0), "0", 0},
		{row(5, 7), "0", 0},
		{row(5, 7, 5, 7), "0", 0},
		{row(0, 0, 1, 1, 0, 0), "0", 0},
		{row(0, 0, 1, 0, zero, 0), "0", 0},
		{row(0, zero, 1, 0, 0, 1, zero, 0), "1", 1},
		{row(1, 1, 1, 1, 2, 1, 2, 1, 1, 2, 1, 1), "1", 1},
		{row(0, 0, 0.5, 0, 0, 0.25, 0, 0), "1/8", 1},
		{row(7, 7, 7, 8, 8, 7, 7, 7), "-1", -1},
		{row(0, 0, 1, 1, 2, 0, 1, -1, 0, 0), "-4", -1},
		// By one step off a line, far out.
		{row(0, 0, great, great, math.Nextafter(great, 0), great, 0, 0), sample.TwoTo(1993), 1},
		{row(0, 0, least, 0, 0, least, 0, 0), sample.TwoTo(-2148), 1},
		{row(0, 0, great, 0, great, least, 0, 0), sample.TwoTo(-51), 1},
		{row(0, 0, great, great, 0, great, 0, 0), sample.TwoTo(2046), 1},
	} {
		a, e := ring.Area2(c.r)
		s, _ := rat.Text(a)
		if s != c.want || e != api.OK {
			t.Errorf("P24.1: Area2(%x) = %s, %d, want %s", c.r, s, e, c.want)
		}
		if turn, e := ring.Turn(c.r); turn != c.turn || e != api.OK {
			t.Errorf("P24.1: Turn(%x) = %d, %d, want %d", c.r, turn, e, c.turn)
		}
		if plain := plainArea(c.r); !sample.IsRat(a, plain) {
			t.Errorf("P24.1: the plain area of %x is %v, not %s", c.r, plain, s)
		}
	}
}

// P24.2, P24.3
func TestWindingAndSide(t *testing.T) {
	mountain := row(0, 0, 2, 2, 4, 0, 6, 2, 8, 0, 8, -2, 0, -2, 0, 0)
	slope := row(-great, -great, great, great, -great, great, -great, -great)
	for _, c := range []struct {
		r       []api.Point
		p       api.Point
		winding int
		side    int
	}{
		{square, at(1, 1), 1, 1},
		{back(square), at(1, 1), -1, 1},
		{twice, at(1, 1), 2, -1},
		{back(twice), at(1, 1), -2, -1},
		{slices.Concat(twice, square[1:]), at(3, 1), 3, 1},
		{slices.Concat(square, back(square)[1:]), at(1, 1), 0, -1},
		{square, at(0, 2), 0, 0},
		{square, at(4, 2), 0, 0},
		{square, at(2, 0), 0, 0},
		{square, at(2, 4), 0, 0},
		{square, at(4, 4), 0, 0},
		{square, at(zero, zero), 0, 0},
		{square, at(5, 2), 0, -1},
		{square, at(-1, 2), 0, -1},
		{square, at(2, 5), 0, -1},
		{square, at(2, -1), 0, -1},
		// At a level where corners and edges lie.
		{square, at(-1, 0), 0, -1},
		{square, at(5, 0), 0, -1},
		{square, at(-1, 4), 0, -1},
		{square, at(5, 4), 0, -1},
		{square, at(9, 9), 0, -1},
		{mountain, at(-1, 2), 0, -1},
		{mountain, at(4, 2), 0, -1},
		{mountain, at(2, 2), 0, 0},
		{mountain, at(-1, 0), 0, -1},
		{mountain, at(2, 0), -1, 1},
		{mountain, at(4, 0), 0, 0},
		{mountain, at(6, 0), -1, 1},
		{mountain, at(9, 0), 0, -1},
		{mountain, at(4, 1), 0, -1},
		{bow, at(1, 2), 1, 1},
		{bow, at(3, 2), -1, 1},
		{bow, at(2, 1), 0, -1},
		{bow, at(2, 2), 0, 0},
		{row(0, 0, 4, 4, 0, 0), at(2, 2), 0, 0},
		{row(0, 0, 4, 4, 0, 0), at(2, 3), 0, -1},
		{row(0, 0, 4, 0, 4, 0, 4, 4, 4, 4, 0, 4, 0, 0, zero, 0), at(1, 1), 1, 1},
		{row(1, 1), at(1, 1), 0, 0},
		{row(1, 1), at(2, 2), 0, -1},
		{row(1, 1), at(1, 2), 0, -1},
		{row(0, zero), at(zero, 0), 0, 0},
		{row(1, 1, 1, 1), at(1, 1), 0, 0},
		{row(1, 1, 1, 1), at(0, 1), 0, -1},
		{row(1, 1, 1, 1), at(1, 0), 0, -1},
		// By one step.
		{slope, at(least, least), 0, 0},
		{slope, at(0, least), 1, 1},
		{slope, at(least, 0), 0, -1},
		{slope, at(math.Nextafter(great, most), great), 0, -1},
		{slope, at(great, great), 0, 0},
		{slope, at(math.Nextafter(great, 0), math.Nextafter(great, 0)), 0, 0},
		{slope, at(math.Nextafter(-great, 0), math.Nextafter(great, 0)), 1, 1},
		{row(0, 0, least, 0, 0, least, 0, 0), at(0, least), 0, 0},
		{row(0, 0, least, 0, 0, least, 0, 0), at(least, least), 0, -1},
	} {
		n, on, e := ring.Winding(c.r, c.p)
		if n != c.winding || on != (c.side == 0) || e != api.OK {
			t.Errorf("P24.2: Winding(%x, %x) = %d, %t, %d, want %d", c.r, c.p, n, on, e, c.winding)
		}
		if side, e := ring.Side(c.r, c.p); side != c.side || e != api.OK {
			t.Errorf("P24.3: Side(%x, %x) = %d, %d, want %d", c.r, c.p, side, e, c.side)
		}
	}
}

// P24.4
func TestBox(t *testing.T) {
	for _, c := range []struct {
		l         []api.Point
		low, high api.Point
	}{
		{row(1, 5, 3, 2, 1, 2), at(1, 2), at(3, 5)},
		{row(0, 1, zero, 1), at(0, 1), at(0, 1)},
		{row(zero, 1, 0, 1), at(zero, 1), at(zero, 1)},
		{row(1, zero, 2, 0), at(1, zero), at(2, zero)},
		{row(1, 0, 2, zero), at(1, 0), at(2, 0)},
		{row(-1, 0, zero, -3, 0, zero), at(-1, -3), at(zero, 0)},
		{row(5, 0, 0, zero, zero, 7), at(0, 0), at(5, 7)},
		{row(3, -4), at(3, -4), at(3, -4)},
		{row(-most, least, most, -least, 0, 0), at(-most, -least), at(most, least)},
		{row(great, -great, math.Nextafter(great, most), math.Nextafter(-great, -most)), at(great, math.Nextafter(-great, -most)), at(math.Nextafter(great, most), -great)},
		{square, at(0, 0), at(4, 4)},
		{make([]api.Point, 3*api.MaxRing), at(0, 0), at(0, 0)},
	} {
		low, high, e := ring.Box(c.l)
		if low != c.low || high != c.high || e != api.OK {
			t.Errorf("P24.4: Box(%x) = %x, %x, %d, want %x, %x", c.l, low, high, e, c.low, c.high)
		}
	}
	for _, l := range [][]api.Point{nil, {}} {
		if low, high, e := ring.Box(l); low != (api.Point{}) || high != (api.Point{}) || e != api.ErrLoop {
			t.Errorf("P24.4: Box of none: %x, %x, %d", low, high, e)
		}
	}
	for _, bad := range sample.Unfinished() {
		for _, p := range []api.Point{{X: bad}, {Y: bad}} {
			for i := range square {
				l := slices.Clone(square)
				l[i] = p
				if low, high, e := ring.Box(l); low != (api.Point{}) || high != (api.Point{}) || e != api.ErrSpot {
					t.Errorf("P24.4: Box(%x) = %x, %x, %d", l, low, high, e)
				}
			}
		}
	}
}

// P24.5
func TestCentre(t *testing.T) {
	third := 1.0 / 3
	for _, c := range []struct {
		r    []api.Point
		want api.Point
	}{
		{square, at(2, 2)},
		{back(square), at(2, 2)},
		{twice, at(2, 2)},
		{row(0, 0, 3, 0, 0, 3, 0, 0), at(1, 1)},
		{row(0, 0, 1, 0, 0, 1, 0, 0), at(third, third)},
		{row(0, 0, -1, 0, 0, -1, 0, 0), at(-third, -third)},
		{row(-1, -1, 1, -1, 1, 1, -1, 1, -1, -1), at(0, 0)},
		{row(10, 0, 14, 0, 14, 4, 10, 4, 10, 0), at(12, 2)},
		{row(0, 0, 6, 0, 6, 3, 3, 3, 3, 6, 0, 6, 0, 0), at(2.5, 2.5)},
		{row(0, zero, 3, 0, 0, 3, zero, 0), at(1, 1)},
		{row(0, 0, 3, 0, 3, 0, 0, 3, 0, 3, 0, 0), at(1, 1)},
		// Without area: the middle of the box.
		{row(0, 0, 2, 2, 0, 0), at(1, 1)},
		{row(0, 0, 2, 2, 6, 0, 2, 2, 0, 0), at(3, 1)},
		{row(7, 8), at(7, 8)},
		{row(7, 8, 7, 8), at(7, 8)},
		{row(zero, zero), at(0, 0)},
		{row(zero, 5, zero, 5), at(0, 5)},
		{row(most, -most), at(most, -most)},
		{row(-most, most, most, most, -most, most), at(0, most)},
		{bow, at(2, 2)},
		{row(0, 0, -4, 4, -4, 0, 0, 4, 0, 0), at(-2, 2)},
		// Rounded once: ties to the even one, and what is rounded to zero keeps its sign.
		{row(0, 0, least, least, 0, 0), at(0, 0)},
		{row(0, 0, -least, -least, 0, 0), at(zero, zero)},
		{row(0, 0, 3*least, -3*least, 0, 0), at(2*least, -2*least)},
		{row(0, 0, least, 0, 0, least, 0, 0), at(0, 0)},
		{row(0, 0, -least, 0, 0, -least, 0, 0), at(zero, zero)},
		{row(0, 0, 3*least, 0, 0, 6*least, 0, 0), at(least, 2*least)},
		{row(least, -least, 2*least, -least, least, 0, least, -least), at(least, -least)},
		{row(1, 1, math.Nextafter(1, 2), 1, 1, 1), at(1, 1)},
		{row(0, 0, most, 0, most, most, 0, most, 0, 0), at(most/2, most/2)},
		{row(-most, -most, most, -most, most, most, -most, most, -most, -most), at(0, 0)},
	} {
		if p, e := ring.Centre(c.r); p != c.want || e != api.OK {
			t.Errorf("P24.5: Centre(%x) = %x, %d, want %x", c.r, p, e, c.want)
		}
		if plain := plainCentre(c.r).Rounded(); plain != c.want {
			t.Errorf("P24.5: the plain centre of %x is %x, want %x", c.r, plain, c.want)
		}
	}
}

// lobes gives a ring of two rectangles, one of so much area and one of area 1 that goes the other way, as far out as said.
func lobes(area, far, side float64) []api.Point {
	wide := far / 0x1p52
	l := row(0, 0, area, 0, area, 1, 0, 1, 0, 0, far, 0, far, 1/wide, far+wide, 1/wide, far+wide, 0, far, 0, 0, 0)
	for i, p := range l {
		l[i].X = math.Float64bits(side * math.Float64frombits(p.X))
	}
	return l
}

// P24.5: two areas that nearly take one another away, one of them far out.
func TestCentreFarOut(t *testing.T) {
	for _, side := range []float64{1, -1} {
		for _, c := range []struct {
			area, far float64
			want      api.Errno
		}{
			{2, 0x1p900, api.OK},
			{2, 0x1p1000, api.OK},
			{1 + 0x1p-50, 0x1p900, api.OK},
			{1 - 0x1p-50, 0x1p900, api.OK},
			{1 + 0x1p-50, 0x1p1000, api.ErrOverflow},
			{1 - 0x1p-50, 0x1p1000, api.ErrOverflow},
		} {
			r := lobes(c.area, c.far, side)
			for _, l := range [][]api.Point{r, back(r), mirrored(r)} {
				want := plainCentre(l).Rounded()
				if finite(want) != (c.want == api.OK) {
					t.Errorf("the plain centre of %x is %x", l, want)
				}
				if c.want != api.OK {
					want = api.Point{}
				}
				if p, e := ring.Centre(l); p != want || e != c.want {
					t.Errorf("P24.5: Centre(%x) = %x, %d, want %x, %d", l, p, e, want, c.want)
				}
			}
		}
	}
}

// P24.6
func TestStart(t *testing.T) {
	for _, c := range []struct {
		r    []api.Point
		left bool
		want []api.Point
	}{
		{square, true, square},
		{square, false, row(0, 0, 0, 4, 4, 4, 4, 0, 0, 0)},
		{back(square), true, square},
		{back(square), false, back(square)},
		{row(4, 4, 0, 4, 0, 0, 4, 0, 4, 4), true, square},
		{row(1, 1), false, row(1, 1)},
		{row(1, 1), true, row(1, 1)},
		{row(zero, 1), true, row(zero, 1)},
		{row(2, 2, 0, 0, 2, 2), true, row(0, 0, 2, 2, 0, 0)},
		{row(2, 2, 0, 0, 2, 2), false, row(0, 0, 2, 2, 0, 0)},
		{row(2, 2, 2, 2), true, row(2, 2, 2, 2)},
		{row(zero, 2, 0, 2), true, row(zero, 2, zero, 2)},
		{row(0, 2, zero, 2), true, row(0, 2, 0, 2)},
		// -0 is ahead of 0, of X and of Y; the last point's patterns go.
		{row(0, 0, 4, 0, 4, 4, zero, 4, 0, 0), true, row(zero, 4, 0, 0, 4, 0, 4, 4, zero, 4)},
		{row(0, 0, 1, 0, 0, 1, zero, 0), true, row(0, 0, 1, 0, 0, 1, 0, 0)},
		{row(zero, 0, 1, 0, 0, 1, 0, 0), true, row(zero, 0, 1, 0, 0, 1, zero, 0)},
		{row(0, 0, 0, zero, 1, 0, 0, 1, 0, 0), true, row(0, zero, 1, 0, 0, 1, 0, 0, 0, zero)},
		{row(1, 1, -2, 0, -1, -5, 1, 1), true, row(-2, 0, -1, -5, 1, 1, -2, 0)},
		{row(1, 1, -2, -1, -2, -3, 1, 1), true, row(-2, -3, 1, 1, -2, -1, -2, -3)},
		{row(1, 1, -2, -1, -2, -3, 1, 1), false, row(-2, -3, -2, -1, 1, 1, -2, -3)},
		{row(-least, 0, -2*least, 0, 0, 9, -least, 0), false, row(-2*least, 0, 0, 9, -least, 0, -2*least, 0)},
		{row(-great, 0, -most, 0, 0, 9, -great, 0), false, row(-most, 0, 0, 9, -great, 0, -most, 0)},
		// Without area both ways are compared, and left does not matter.
		{bow, true, row(0, 0, 0, 4, 4, 0, 4, 4, 0, 0)},
		{bow, false, row(0, 0, 0, 4, 4, 0, 4, 4, 0, 0)},
		{back(bow), false, row(0, 0, 0, 4, 4, 0, 4, 4, 0, 0)},
		{row(0, 0, 2, 0, 1, 0, 0, 0), true, row(0, 0, 1, 0, 2, 0, 0, 0)},
		// The least place comes more than once: what follows tells, also beyond where the list began.
		{row(0, 0, 1, 0, 0, 0, 0, 1, 0, 0), true, row(0, 0, 0, 1, 0, 0, 1, 0, 0, 0)},
		{row(0, 0, 2, 0, 2, 1, 0, 0, 1, 2, 0, 2, 0, 0), true, row(0, 0, 1, 2, 0, 2, 0, 0, 2, 0, 2, 1, 0, 0)},
		{row(0, 0, 2, 0, 2, 1, 0, 0, 2, 0, 1, 2, 0, 0), true, row(0, 0, 2, 0, 1, 2, 0, 0, 2, 0, 2, 1, 0, 0)},
		{row(2, 1, 0, 0, 0, 0, 2, 0, 2, 1), true, row(0, 0, 0, 0, 2, 0, 2, 1, 0, 0)},
		{twice, true, twice},
	} {
		l, e := ring.Start(c.r, c.left)
		if !slices.Equal(l, c.want) || e != api.OK {
			t.Errorf("P24.6: Start(%x, %t) = %x, %d, want %x", c.r, c.left, l, e, c.want)
		}
		if plain := plainStart(c.r, c.left); !slices.Equal(plain, c.want) {
			t.Errorf("P24.6: the plain start of %x, %t is %x, want %x", c.r, c.left, plain, c.want)
		}
	}
}

// refused tells which calls with this ring and this point aren't refused with that error.
func refused(r []api.Point, p api.Point, want api.Errno) []string {
	var out []string
	note := func(name string, e api.Errno, ok bool) {
		if !ok || e != want {
			out = append(out, name)
		}
	}
	n, on, e := ring.Winding(r, p)
	note("P24.2: Winding", e, n == 0 && !on)
	n, e = ring.Side(r, p)
	note("P24.3: Side", e, n == 0)
	return append(out, refusedRing(r, want)...)
}

// refusedRing does so of those that take a ring alone.
func refusedRing(r []api.Point, want api.Errno) []string {
	var out []string
	note := func(name string, e api.Errno, ok bool) {
		if !ok || e != want {
			out = append(out, name)
		}
	}
	a, e := ring.Area2(r)
	note("P24.1: Area2", e, !a.Neg && len(a.Num)+len(a.Den) == 0)
	n, e := ring.Turn(r)
	note("P24.1: Turn", e, n == 0)
	c, e := ring.Centre(r)
	note("P24.5: Centre", e, c == api.Point{})
	for _, left := range []bool{false, true} {
		l, e := ring.Start(r, left)
		note("P24.6: Start", e, len(l) == 0)
	}
	return out
}

// The errors of calls that take a ring, the first that applies: no point or too many, not finite, ends that differ.
func TestNoRing(t *testing.T) {
	good, bad := at(0, 0), api.Point{Y: 0x7ff8000000000000}
	many := func(n int, p api.Point) []api.Point { return slices.Repeat([]api.Point{p}, n) }
	for _, c := range []struct {
		r    []api.Point
		p    api.Point
		want api.Errno
	}{
		{nil, good, api.ErrLoop},
		{[]api.Point{}, bad, api.ErrLoop},
		{many(api.MaxRing+1, good), good, api.ErrLoop},
		{many(api.MaxRing+1, good), bad, api.ErrLoop},
		{many(api.MaxRing+1, bad), bad, api.ErrLoop},
		{many(3*api.MaxRing, good), good, api.ErrLoop},
		{many(api.MaxRing, bad), good, api.ErrSpot},
		{row(0, 0, 1, 1), good, api.ErrLoop},
		{row(0, 0, 0, least), good, api.ErrLoop},
		{row(0, 0, least, 0), good, api.ErrLoop},
		{row(0, 0, 1, 1, 0, 1), good, api.ErrLoop},
		{row(0, 0, math.NaN(), 0, 1, 1), good, api.ErrSpot},
		{row(0, 0, math.NaN(), 0, 0, 0), good, api.ErrSpot},
		{row(math.Inf(1), 0), good, api.ErrSpot},
		{row(0, math.Inf(-1), 0, math.Inf(-1)), good, api.ErrSpot},
	} {
		if wrong := refused(c.r, c.p, c.want); len(wrong) > 0 {
			t.Errorf("%q of %d points aren't refused with %d: %x", wrong, len(c.r), c.want, c.r[:min(3, len(c.r))])
		}
	}
	for _, r := range [][]api.Point{square, row(0, 0, 1, 1), row(0, 0)} {
		for _, pattern := range sample.Unfinished() {
			for _, p := range []api.Point{{X: pattern}, {Y: pattern}} {
				if n, on, e := ring.Winding(r, p); n != 0 || on || e != api.ErrSpot {
					t.Errorf("P24.2: Winding(%x, %x) = %d, %t, %d", r, p, n, on, e)
				}
				if n, e := ring.Side(r, p); n != 0 || e != api.ErrSpot {
					t.Errorf("P24.3: Side(%x, %x) = %d, %d", r, p, n, e)
				}
				for i := range r {
					l := slices.Clone(r)
					l[i] = p
					if wrong := refused(l, at(1, 1), api.ErrSpot); len(wrong) > 0 {
						t.Errorf("%q of %x aren't refused", wrong, l)
					}
				}
			}
		}
	}
}
