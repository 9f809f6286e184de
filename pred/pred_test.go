package pred_test

import (
	"math"
	"math/big"
	"slices"
	"testing"

	"plumb/api"
	"plumb/pred"
	"plumb/rat"
	"plumb/sample"
)

const (
	great = 0x1p1023
	least = 0x1p-1074
)

var (
	below = math.Nextafter(great, 0)
	zero  = math.Copysign(0, -1) // -0
)

// P22.1
func TestOrient(t *testing.T) {
	for _, c := range []struct {
		a, b, c api.Point
		want    int
	}{
		{at(0, 0), at(1, 0), at(0, 1), 1},
		{at(0, 0), at(0, 1), at(1, 0), -1},
		{at(0, 0), at(1, 1), at(2, 2), 0},
		{at(0, 0), at(1, 1), at(-2, -2), 0},
		{at(3, 4), at(3, 4), at(9, 9), 0},
		{at(3, 4), at(9, 9), at(3, 4), 0},
		{at(9, 9), at(3, 4), at(3, 4), 0},
		{at(0, 0), at(great, great), at(below, great), 1},
		{at(0, 0), at(great, great), at(great, below), -1},
		{at(0, 0), at(zero, zero), at(1, 1), 0},
		{at(-great, 0), at(great, 0), at(0, least), 1},
		{at(-great, 0), at(great, 0), at(0, -least), -1},
		{at(-great, 0), at(great, 0), at(0, zero), 0},
		{at(-math.MaxFloat64, -math.MaxFloat64), at(math.MaxFloat64, math.MaxFloat64), at(least, 0), -1},
		{at(-math.MaxFloat64, -math.MaxFloat64), at(math.MaxFloat64, math.MaxFloat64), at(least, least), 0},
		{at(0.1, 0.1), at(0.2, 0.2), at(0.3, 0.3), 0},
		{at(0, 0), at(0.1, 0.3), at(0.2, 0.6), 0},
		{at(0, 0), at(0.1, 0.3), at(1, 3), plainArea2(at(0, 0), at(0.1, 0.3), at(1, 3)).Sign()},
	} {
		if got, e := pred.Orient(c.a, c.b, c.c); got != c.want || e != api.OK {
			t.Errorf("P22.1: Orient(%x, %x, %x) = %d, %d, want %d", c.a, c.b, c.c, got, e, c.want)
		}
	}
}

// P22.1
func TestArea2(t *testing.T) {
	tiny := new(big.Rat).SetFrac(big.NewInt(-1), new(big.Int).Lsh(big.NewInt(1), 2148))
	huge := new(big.Rat).SetInt(new(big.Int).Lsh(big.NewInt(1), 2048))
	for _, c := range []struct {
		a, b, c api.Point
		want    *big.Rat
	}{
		{at(0, 0), at(1, 0), at(0, 1), big.NewRat(1, 1)},
		{at(1, 2), at(3, 4), at(5, 6), new(big.Rat)},
		{at(zero, 0), at(0, zero), at(zero, zero), new(big.Rat)},
		{at(0, 0), at(0, least), at(least, 0), tiny},
		{at(-great, -great), at(great, -great), at(-great, great), new(big.Rat).SetInt(new(big.Int).Lsh(big.NewInt(1), 2048))},
		{at(-great, -great), at(-great, great), at(great, -great), new(big.Rat).Neg(huge)},
		{at(0.5, 0), at(0, 0.25), at(0, 0), big.NewRat(1, 8)},
		{at(0, 0), at(great, 0), at(0, least), new(big.Rat).SetFrac(big.NewInt(1), new(big.Int).Lsh(big.NewInt(1), 51))},
	} {
		got, e := pred.Area2(c.a, c.b, c.c)
		if e != api.OK || !sample.IsRat(got, c.want) || rat.Check(got) != api.OK {
			t.Errorf("P22.1: Area2(%x, %x, %x) = %v, %d, want %v", c.a, c.b, c.c, got, e, c.want)
		}
	}
}

// P22.2
func TestInCircle(t *testing.T) {
	for _, c := range []struct {
		a, b, c, d api.Point
		want       int
	}{
		{at(0, 0), at(1, 0), at(0, 1), at(1, 1), 0},
		{at(0, 0), at(1, 0), at(0, 1), at(0.5, 0.5), 1},
		{at(0, 0), at(1, 0), at(0, 1), at(2, 2), -1},
		{at(0, 0), at(0, 1), at(1, 0), at(0.5, 0.5), -1},
		{at(0, 0), at(0, 1), at(1, 0), at(2, 2), 1},
		{at(0, 0), at(1, 0), at(2, 0), at(1, 1), 1},
		{at(0, 0), at(1, 0), at(2, 0), at(1, -1), -1},
		{at(0, 0), at(1, 0), at(2, 0), at(3, 0), 0},
		{at(0, 0), at(0, 0), at(2, 1), at(3, 0), 0},
		{at(0, 0), at(1, 0), at(0, 1), at(0, zero), 0},
		{at(0, 0), at(1, 0), at(0, 1), at(math.Nextafter(1, 0), 1), 1},
		{at(0, 0), at(1, 0), at(0, 1), at(math.Nextafter(1, 2), 1), -1},
		{at(0, 0), at(1, 0), at(0, 1), at(least, least), 1},
		{at(0, 0), at(1, 0), at(0, 1), at(-least, 0), -1},
		{at(0, 0), at(great, 0), at(0, great), at(least, least), 1},
		{at(0, 0), at(great, 0), at(0, great), at(0, -least), -1},
		{at(5, 0), at(0, 5), at(-3, 4), at(4, -3), 0},
		{at(5, 0), at(0, 5), at(-3, 4), at(4, math.Nextafter(-3, 0)), 1},
		{at(5, 0), at(0, 5), at(-3, 4), at(4, math.Nextafter(-3, -4)), -1},
	} {
		if got, e := pred.InCircle(c.a, c.b, c.c, c.d); got != c.want || e != api.OK {
			t.Errorf("P22.2: InCircle(%x, %x, %x, %x) = %d, %d, want %d", c.a, c.b, c.c, c.d, got, e, c.want)
		}
	}
}

// P22.3
func TestBetween(t *testing.T) {
	for _, c := range []struct {
		a, b, p api.Point
		want    bool
	}{
		{at(0, 0), at(2, 2), at(1, 1), true},
		{at(0, 0), at(2, 2), at(0, 0), true},
		{at(0, 0), at(2, 2), at(2, 2), true},
		{at(0, 0), at(2, 2), at(3, 3), false},
		{at(0, 0), at(2, 2), at(-1, -1), false},
		{at(0, 0), at(2, 2), at(1, 0), false},
		{at(2, 2), at(0, 0), at(1, 1), true},
		{at(0, 2), at(2, 0), at(1, 1), true},
		{at(0, 2), at(2, 0), at(-1, 3), false},
		{at(0, 0), at(0, 4), at(0, 3), true},
		{at(0, 0), at(0, 4), at(0, 5), false},
		{at(0, 4), at(0, 0), at(0, -1), false},
		{at(1, 1), at(1, 1), at(1, 1), true},
		{at(1, 1), at(1, 1), at(1, 2), false},
		{at(1, 1), at(1, 1), at(0, 0), false},
		{at(0, zero), at(zero, 0), at(zero, zero), true},
		{at(-great, -great), at(great, great), at(least, least), true},
		{at(-great, -great), at(great, great), at(least, 0), false},
		{at(0, 0), at(great, 0), at(-least, 0), false},
		{at(0, 0), at(great, 0), at(math.Nextafter(great, math.Inf(1)), 0), false},
	} {
		if got, e := pred.Between(c.a, c.b, c.p); got != c.want || e != api.OK {
			t.Errorf("P22.3: Between(%x, %x, %x) = %t, %d, want %t", c.a, c.b, c.p, got, e, c.want)
		}
	}
}

// P22.4
func TestNearer(t *testing.T) {
	for _, c := range []struct {
		a, b, c, d api.Point
		want       int
	}{
		{at(0, 0), at(1, 1), at(0, 0), at(1, 0), 1},
		{at(0, 0), at(1, 0), at(0, 0), at(1, 1), -1},
		{at(0, 0), at(3, 4), at(1, 1), at(1, 6), 0},
		{at(3, 4), at(0, 0), at(1, 1), at(1, 6), 0},
		{at(5, 5), at(5, 5), at(0, 0), at(least, 0), -1},
		{at(0, 0), at(zero, zero), at(7, 7), at(7, 7), 0},
		{at(0, 0), at(great, least), at(0, 0), at(great, 0), 1},
		{at(0, 0), at(great, great), at(0, 0), at(great, below), 1},
		{at(-great, -great), at(great, great), at(great, -great), at(-great, great), 0},
	} {
		if got, e := pred.Nearer(c.a, c.b, c.c, c.d); got != c.want || e != api.OK {
			t.Errorf("P22.4: Nearer(%x, %x, %x, %x) = %d, %d, want %d", c.a, c.b, c.c, c.d, got, e, c.want)
		}
	}
}

// P22.5
func TestOrder(t *testing.T) {
	for _, c := range []struct {
		a, b api.Point
		want int
	}{
		{at(0, 5), at(1, 0), -1},
		{at(1, 0), at(0, 5), 1},
		{at(1, 2), at(1, 1), 1},
		{at(1, 1), at(1, 2), -1},
		{at(0, 0), at(zero, 0), 0},
		{at(zero, 1), at(0, 0), 1},
		{at(-least, 0), at(0, -9), -1},
		{at(-1, 0), at(-2, 0), 1},
		{at(below, 0), at(great, 0), -1},
		{at(3, -2), at(3, -1), -1},
	} {
		if got, e := pred.Order(c.a, c.b); got != c.want || e != api.OK {
			t.Errorf("P22.5: Order(%x, %x) = %d, %d, want %d", c.a, c.b, got, e, c.want)
		}
	}
}

// P22.6
func TestHull(t *testing.T) {
	type list = []api.Point
	for _, c := range []struct {
		in, want list
	}{
		{list{at(1, 1), at(0, 0), at(2, 0), at(1, 0), at(2, 2), at(0, 2), at(0, 0)}, list{at(0, 0), at(2, 0), at(2, 2), at(0, 2)}},
		{list{at(3, 3), at(1, 1), at(2, 2)}, list{at(1, 1), at(3, 3)}},
		{list{at(3, -3), at(2, -2), at(1, -1), at(3, -3)}, list{at(1, -1), at(3, -3)}},
		{list{at(2, 5), at(2, 1), at(2, 3)}, list{at(2, 1), at(2, 5)}},
		{list{at(zero, 0), at(0, 0)}, list{at(zero, 0)}},
		{list{at(0, zero), at(zero, 0), at(0, 0)}, list{at(0, zero)}},
		{list{at(4, 4)}, list{at(4, 4)}},
		{list{at(4, 4), at(4, 4), at(4, 4)}, list{at(4, 4)}},
		{nil, nil},
		{list{}, nil},
		{list{at(0, 1), at(1, 0), at(0, 0)}, list{at(0, 0), at(1, 0), at(0, 1)}},
		// The patterns of the first point at a place, wherever it stands: at the least, at the greatest, above and below.
		{list{at(1, 0), at(0, zero), at(1, zero), at(0, 0), at(zero, 1), at(0, 1)}, list{at(0, zero), at(1, 0), at(zero, 1)}},
		{list{at(zero, 5), at(0, 5), at(-3, 0), at(3, zero), at(3, 0), at(-3, zero), at(0, -5), at(zero, -5)}, list{at(-3, 0), at(0, -5), at(3, zero), at(zero, 5)}},
		// By one step no longer on the line between its neighbours.
		{list{at(-great, 0), at(0, -least), at(great, 0), at(0, 1)}, list{at(-great, 0), at(0, -least), at(great, 0), at(0, 1)}},
		{list{at(-great, 0), at(0, least), at(great, 0), at(0, 1)}, list{at(-great, 0), at(great, 0), at(0, 1)}},
		{list{at(0, 0), at(great, great), at(below, great)}, list{at(0, 0), at(great, great), at(below, great)}},
	} {
		got, e := pred.Hull(c.in)
		if e != api.OK || !slices.Equal(got, c.want) {
			t.Errorf("P22.6: Hull(%x) = %x, %d, want %x", c.in, got, e, c.want)
		}
		if want := plainHull(c.in); !slices.Equal(want, c.want) {
			t.Errorf("P22.6: the plain hull of %x is %x, want %x", c.in, want, c.want)
		}
	}
}

// P22.6: many points: all of a circle's places are corners, of a grid four, of a line two.
func TestHullOfMany(t *testing.T) {
	var bow, grid, line, same []api.Point
	for i := range 3000 {
		v := float64(i * 7919 % 3000)
		bow = append(bow, at(v, v*v))
		line = append(line, at(v, -3*v))
		same = append(same, at(zero, 7))
	}
	for i := range 10000 {
		grid = append(grid, at(float64(i*37%100), float64(i/100)))
	}
	got, e := pred.Hull(bow)
	if e != api.OK || len(got) != len(bow) {
		t.Errorf("P22.6: Hull of %d points of a bow: %d, %d", len(bow), len(got), e)
	}
	for i, p := range got {
		if p != at(float64(i), float64(i*i)) {
			t.Fatalf("P22.6: corner %d of a bow: %x", i, p)
		}
	}
	if got, e := pred.Hull(grid); e != api.OK || !slices.Equal(got, []api.Point{at(0, 0), at(99, 0), at(99, 99), at(0, 99)}) {
		t.Errorf("P22.6: Hull of a grid: %x, %d", got, e)
	}
	if got, e := pred.Hull(line); e != api.OK || !slices.Equal(got, []api.Point{at(0, 0), at(2999, -8997)}) && !slices.Equal(got, []api.Point{at(0, zero), at(2999, -8997)}) {
		t.Errorf("P22.6: Hull of a line: %x, %d", got, e)
	}
	if got, e := pred.Hull(same); e != api.OK || !slices.Equal(got, same[:1]) {
		t.Errorf("P22.6: Hull of one place: %x, %d", got, e)
	}
}

// refused tells which calls with these four points aren't refused as they should be; the last takes all.
func refused(a, b, c, d api.Point) []string {
	var out []string
	note := func(name string, ok bool) {
		if !ok {
			out = append(out, name)
		}
	}
	n, e := pred.InCircle(a, b, c, d)
	note("P22.2: InCircle", n == 0 && e == api.ErrSpot)
	n, e = pred.Nearer(a, b, c, d)
	note("P22.4: Nearer", n == 0 && e == api.ErrSpot)
	h, e := pred.Hull([]api.Point{a, b, c, d})
	note("P22.6: Hull", len(h) == 0 && e == api.ErrSpot)
	return out
}

// refusedOfThree does so of those that take three or two.
func refusedOfThree(a, b, c api.Point) []string {
	var out []string
	note := func(name string, ok bool) {
		if !ok {
			out = append(out, name)
		}
	}
	n, e := pred.Orient(a, b, c)
	note("P22.1: Orient", n == 0 && e == api.ErrSpot)
	r, e := pred.Area2(a, b, c)
	note("P22.1: Area2", !r.Neg && len(r.Num)+len(r.Den) == 0 && e == api.ErrSpot)
	is, e := pred.Between(a, b, c)
	note("P22.3: Between", !is && e == api.ErrSpot)
	return out
}

// ErrSpot: of each call, in each of its patterns, whatever the other ones are.
func TestNotFinite(t *testing.T) {
	for _, bad := range sample.Unfinished() {
		for _, good := range []api.Point{{}, at(1, 2), at(great, least)} {
			for i := range 8 {
				l := []api.Point{good, good, at(3, 4), at(-1, 0)}
				coordinate := &l[i/2].X
				if i%2 == 1 {
					coordinate = &l[i/2].Y
				}
				*coordinate = bad
				wrong := refused(l[0], l[1], l[2], l[3])
				if i < 6 {
					wrong = append(wrong, refusedOfThree(l[0], l[1], l[2])...)
				}
				if n, e := pred.Order(l[0], l[1]); i < 4 && (n != 0 || e != api.ErrSpot) {
					wrong = append(wrong, "P22.5: Order")
				}
				if h, e := pred.Hull(l[i/2 : i/2+1]); len(h) != 0 || e != api.ErrSpot {
					wrong = append(wrong, "P22.6: Hull of one")
				}
				if len(wrong) > 0 {
					t.Errorf("%q of %x are not refused", wrong, l)
				}
			}
		}
	}
}
