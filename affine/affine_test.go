package affine_test

import (
	"errors"
	"math"
	"math/big"
	"slices"
	"testing"

	"plumb/affine"
	"plumb/api"
	"plumb/rat"
	"plumb/sample"
	"plumb/tree"
)

const (
	great = 0x1p1023
	least = 0x1p-1074
	most  = math.MaxFloat64
)

var zero = math.Copysign(0, -1) // -0

// point gives one by two floats, or an empty one.
func point(l ...float64) api.Geom {
	return sample.Point(sample.Spots(l...)...)
}

// line gives a line string by floats.
func line(l ...float64) api.Geom {
	return sample.Line(sample.Spots(l...)...)
}

// row gives points by floats.
func row(l ...float64) []api.Point {
	return sample.Spots(l...)
}

// sixOf gives six numbers by their texts.
func sixOf(l ...string) six {
	var out six
	for i, s := range l {
		out[i] = ratio(s)
	}
	return out
}

// none gives Rats that are none.
func none() []api.Rat {
	one := []uint64{1}
	return []api.Rat{
		{}, {Num: one}, {Num: []uint64{2}, Den: []uint64{4}}, {Neg: true, Den: one}, {Num: []uint64{1, 0}, Den: []uint64{3}},
		{Num: one, Den: []uint64{3, 0}}, {Den: []uint64{2}}, {Num: one, Den: []uint64{0}}, {Num: []uint64{0}, Den: one},
		{Num: sample.Of(api.MaxLimbs+1, 1), Den: one}, {Num: one, Den: sample.Of(api.MaxLimbs+1, 1)},
	}
}

// noTrees gives Geoms that are none, with tree's error.
func noTrees() []api.Geom {
	return []api.Geom{
		{}, {Kind: 9}, sample.Point(row(0, 0, 1, 1)...), sample.Polygon(nil), sample.Deep(api.MaxDepth+1, point()),
		sample.Group(api.Collection, point(), sample.Group(api.Points, sample.Line())),
		sample.Group(api.Collection, point(1, 1), point(math.Inf(1), 0)), line(0, 0, 0, math.NaN()),
		sample.Line(make([]api.Point, api.MaxPoints)...),
	}
}

// isFault tells whether an error is a *api.Fault itself, with that place and that Errno.
func isFault(err error, at int, code api.Errno) bool {
	fault, ok := err.(*api.Fault)
	return ok && fault.At == at && fault.Err == error(code) && errors.Is(err, code)
}

// refused fails if a call's answer isn't that fault and nothing else.
func refused(t *testing.T, what string, g api.Geom, err error, at int, code api.Errno) {
	t.Helper()
	if !isFault(err, at, code) || !tree.Equal(g, api.Geom{}) {
		t.Errorf("%s: %v, %v, want %d at %d", what, g, err, code, at)
	}
}

// is fails if a call's answer isn't that Geom.
func is(t *testing.T, what string, g api.Geom, err error, want api.Geom) {
	t.Helper()
	if err != nil || !tree.Equal(g, want) {
		t.Errorf("%s: %x, %v, want %x", what, g, err, want)
	}
}

// P26.1
func TestMap(t *testing.T) {
	third, low := 1.0/3, math.Nextafter(most, 0)
	for i, c := range []struct {
		g    api.Geom
		m    six
		want api.Geom
	}{
		{point(1, 2), sixOf("1", "0", "3", "0", "1", "-1"), point(4, 1)},
		{point(1, 2), sixOf("0", "-1", "0", "1", "0", "0"), point(-2, 1)},
		{point(1, 2), sixOf("1/3", "0", "0", "0", "1/3", "0"), point(third, 2*third)},
		{point(), sixOf("1", "2", "3", "4", "5", "6"), point()},
		{point(zero, 0), sixOf("1", "0", "0", "0", "1", "0"), point(0, 0)},
		{point(zero, zero), sixOf("-1", "-1", "0", "-1", "0", "0"), point(0, 0)},
		{point(3, 5), sixOf("2", "7", "11", "13", "17", "19"), point(52, 143)},
		{point(3, -5), sixOf("-2", "7", "-11", "13", "-17", "-19"), point(-52, 105)},
		{point(5, 5), sixOf("1", "-1", "0", "2", "-2", "0"), point(0, 0)},
		// What is rounded is the sum alone.
		{point(0x1p53, 1), sixOf("1", "1", "0", "1", "1", "1/1000000"), point(0x1p53, 0x1p53+2)},
		{point(0x1p53, least), sixOf("1", "1", "1", "1", "-1", "1"), point(0x1p53+2, 0x1p53)},
		{point(0.1, 0.2), sixOf("1", "1", "0", "3", "0", "0"), point(math.Nextafter(0.3, 1), math.Nextafter(0.3, 1))},
		{point(great, great), sixOf("2", "-2", "5", "4", "-3", "0"), point(5, great)},
		{point(great, 0), sixOf("2", "0", "-"+sample.TwoTo(1023), "1/2", "0", "0"), point(great, great/2)},
		// At the ends.
		{point(most, -most), sixOf("1", "0", "0", "0", "1", "0"), point(most, -most)},
		{point(most, most), sixOf("1", "0", sample.TwoTo(969), "0", "-1", "-"+sample.TwoTo(969)), point(most, -most)},
		{point(most, most), sixOf("1", "0", "-"+sample.TwoTo(970), "0", "1", "-"+sample.TwoTo(971)), point(low, low)},
		{point(least, -least), sixOf("1/2", "0", "0", "0", "1/2", "0"), point(0, zero)},
		{point(least, -least), sixOf("3/4", "0", "0", "0", "3/4", "0"), point(least, -least)},
		{point(least, least), sixOf("1/2", "1/1000", "0", "-1/2", "-1/1000", "0"), point(least, -least)},
		// All that has points, and what has none.
		{line(), sixOf("1", "0", "3", "0", "1", "-1"), line()},
		{line(0, 0, 1, 2, 0, 0), sixOf("1", "0", "3", "0", "1", "-1"), line(3, -1, 4, 1, 3, -1)},
		{sample.Polygon(row(0, 0), row(1, 1, 2, 2)), sixOf("0", "1", "0", "2", "0", "0"), sample.Polygon(row(0, 0), row(1, 2, 2, 4))},
		{sample.Group(api.Lines, line(1, 2), line(), line(3, 4)), sixOf("1", "1", "0", "0", "0", "7"), sample.Group(api.Lines, line(3, 7), line(), line(7, 7))},
		{sample.Group(7, sample.Group(4, point(1, 1), point()), sample.Group(6), sample.Group(7, point(2, 3))), sixOf("2", "0", "0", "0", "2", "0"), sample.Group(7, sample.Group(4, point(2, 2), point()), sample.Group(6), sample.Group(7, point(4, 6)))},
	} {
		g, err := affine.Map(c.g, c.m.rats())
		if err != nil || !tree.Equal(g, c.want) {
			t.Errorf("P26.1: number %d: Map(%v) = %x, %v, want %x", i, c.g, g, err, c.want)
		}
	}
}

// P26.1: what is no tree, ahead of what is no Rat, ahead of what is too great.
func TestMapRefuses(t *testing.T) {
	same := sixOf("1", "0", "0", "0", "1", "0").rats()
	for _, r := range none() {
		for i := range same {
			m := same
			m[i] = r
			for _, g := range []api.Geom{point(1, 1), point(), sample.Group(api.Collection), sample.Group(7, point(great, great))} {
				got, err := affine.Map(g, m)
				refused(t, "P26.1: no Rat", got, err, 0, api.ErrRat)
			}
			m[(i+1)%6] = ratOf(two(1025))
			got, err := affine.Map(point(1, 1), m)
			refused(t, "P26.1: no Rat, and too great", got, err, 0, api.ErrRat)
		}
	}
	for _, g := range noTrees() {
		want := tree.Check(g)
		for _, m := range [][6]api.Rat{same, {}} {
			got, err := affine.Map(g, m)
			refused(t, "P26.1: no tree", got, err, api.Place(want), api.Code(want))
		}
	}
}

// P26.1: a result that overflows, at the first coordinate where it is so.
func TestMapOverflows(t *testing.T) {
	double, ring := sixOf("2", "0", "0", "0", "2", "0"), row(0, 0, 0, great)
	for i, c := range []struct {
		g  api.Geom
		m  six
		at int
	}{
		{sample.Group(4, point(), point(great, 0)), sixOf("2", "0", "0", "0", "1", "0"), 2},
		{point(great, 0), double, 0},
		{point(0, great), double, 0},
		{point(0, -great), double, 0},
		{line(1, 1, 2, 2, 0, great), double, 0},
		{sample.Group(7, point(1, 1), sample.Polygon(row(0, 0), ring), point(great, 0)), double, 2},
		{sample.Group(7, sample.Group(7, point(), sample.Group(7)), sample.Group(7, line(1, 1), line(0, 0, 0, great))), double, 6},
		{point(most, 0), sixOf("1", "0", sample.TwoTo(970), "0", "0", "0"), 0},
		{point(0, -most), sixOf("0", "0", "0", "0", "1", "-"+sample.TwoTo(970)), 0},
		{point(1, 1), sixOf(sample.TwoTo(1024), "0", "0", "0", "0", "0"), 0},
		{point(1, 1), sixOf("0", "0", "0", "0", "0", "-"+sample.TwoTo(1024)), 0},
		{point(0, 0), sixOf("0", "0", sample.TwoTo(200000), "0", "0", "0"), 0},
	} {
		g, err := affine.Map(c.g, c.m.rats())
		if !isFault(err, c.at, api.ErrAffine) || !tree.Equal(g, api.Geom{}) {
			t.Errorf("P26.1: number %d: Map(%v) = %x, %v, want %d at %d", i, c.g, g, err, api.ErrAffine, c.at)
		}
	}
}

// P26.1: numbers that are too long on the way, by the way that the words name, and where they are not.
func TestMapAtTheLimit(t *testing.T) {
	h, part := two(262143), two(-100000)
	whole := two(200000)
	o := new(big.Rat)
	one := big.NewRat(1, 1)
	for i, c := range []struct {
		x, y    float64
		a, b, c *big.Rat
		e       api.Errno
		want    float64
	}{
		{2, 1, h, o, o, api.ErrHuge, 0},
		{1, 2, o, h, o, api.ErrHuge, 0},
		{2, 0, minus(h), o, o, api.ErrHuge, 0},
		{0.5, 1, two(-262143), o, o, api.ErrHuge, 0},
		{1, 0.5, o, two(-262143), o, api.ErrHuge, 0},
		{1, 1, two(-262143), o, o, api.OK, 0},
		{1, 1, minus(two(-262143)), o, o, api.OK, zero},
		{0.5, 1, h, minus(two(262142)), one, api.OK, 1},
		{1, 1, h, o, o, api.ErrAffine, 0},
		{0, 1, h, one, one, api.OK, 2},
		// The sum of both products.
		{1, 1, h, h, o, api.ErrHuge, 0},
		{1, 1, h, minus(h), one, api.OK, 1},
		{1, 1, whole, part, o, api.ErrHuge, 0},
		{1, 1, part, whole, minus(whole), api.ErrHuge, 0},
		{1, 0, whole, part, o, api.ErrAffine, 0},
		{1, 1, minus(two(-262143)), two(-262143), one, api.ErrHuge, 0},
		// The sum with the third.
		{1, 0, h, o, h, api.ErrHuge, 0},
		{1, 0, h, o, minus(h), api.OK, 0},
		{1, 0, whole, o, part, api.ErrHuge, 0},
		{0, 1, o, part, whole, api.ErrHuge, 0},
		{1, 1, whole, minus(whole), part, api.OK, 0},
		{1, 1, whole, minus(whole), minus(part), api.OK, zero},
		{0, 0, whole, o, part, api.OK, 0},
	} {
		row, p := [3]*big.Rat{c.a, c.b, c.c}, point(c.x, c.y)
		for k, m := range []six{{row[0], row[1], row[2], o, o, o}, {o, o, o, row[0], row[1], row[2]}} {
			g, err := affine.Map(sample.Group(7, point(), p), m.rats())
			want := [2]api.Geom{point(c.want, 0), point(0, c.want)}[k]
			switch {
			case c.e != api.OK && (!isFault(err, 2, c.e) || !tree.Equal(g, api.Geom{})):
				t.Errorf("P26.1: number %d, row %d: %v, want %d at 2", i, k, err, c.e)
			case c.e == api.OK && (err != nil || !tree.Equal(g, sample.Group(7, point(), want))):
				t.Errorf("P26.1: number %d, row %d: %x, %v, want %x", i, k, g, err, want)
			}
		}
	}
	// The first coordinate tells, whichever error it has.
	both := six{two(1024), o, o, o, h, o}.rats()
	g, err := affine.Map(point(1, 2), both)
	refused(t, "P26.1: X overflows, Y is too long", g, err, 0, api.ErrAffine)
	g, err = affine.Map(sample.Group(4, point(0, 2), point(1, 0)), both)
	refused(t, "P26.1: Y is too long, then X overflows", g, err, 1, api.ErrHuge)
	g, err = affine.Map(sample.Group(4, point(0, 0), point(1, 0), point(0, 2)), both)
	refused(t, "P26.1: X overflows, then Y is too long", g, err, 2, api.ErrAffine)
}

// P26.2
func TestSnap(t *testing.T) {
	for i, c := range []struct {
		g    api.Geom
		step string
		want api.Geom
	}{
		{point(0.3, 0.125), "1/4", point(0.25, 0)},
		{point(0.375, -0.125), "1/4", point(0.5, 0)},
		{point(7, -7), "2", point(8, -8)},
		{point(5, -5), "2", point(4, -4)},
		{point(1, -1), "2", point(0, 0)},
		{point(3, -3), "2", point(4, -4)},
		{point(1, 1), "3", point(0, 0)},
		{point(1.5, -1.5), "3", point(0, 0)},
		{point(math.Nextafter(1.5, 2), math.Nextafter(-1.5, -2)), "3", point(3, -3)},
		{point(4.5, -4.5), "3", point(6, -6)},
		{point(math.Nextafter(4.5, 0), math.Nextafter(-4.5, 0)), "3", point(3, -3)},
		{point(2, -2), "3", point(3, -3)},
		{point(1, 2), "1/3", point(1, 2)},
		{point(0.3, -0.3), "1/10", point(0.3, -0.3)},
		{point(0.35, 0.25), "1/10", point(0.3, 0.2)}, // 0.35 is a little less, 0.25 a tie
		{point(zero, 0), "1", point(0, 0)},
		{point(-0.25, zero), "1", point(0, 0)},
		{point(0.5, -0.5), "1", point(0, 0)},
		{point(1.5, 2.5), "1", point(2, 2)},
		{point(-1.5, -2.5), "1", point(-2, -2)},
		{point(0x1p53, -0x1p53-2), "1", point(0x1p53, -0x1p53-2)},
		{point(0x1p53-1, -0x1p53+1), "2", point(0x1p53, -0x1p53)},
		{point(0x1p53-3, -0x1p53+3), "2", point(0x1p53-4, -0x1p53+4)},
		{point(least, -least), "1", point(0, 0)},
		{point(least, -3*least), "1/" + sample.TwoTo(1073), point(0, -4*least)},
		{point(least, -least), "1/3", point(0, 0)},
		{point(most, -most), "1", point(most, -most)},
		{point(), "2", point()},
		{line(1, 0, 4, 9), "2", line(0, 0, 4, 8)},
		{sample.Polygon(row(1, 2), row(3, 3, 5, 5)), "2", sample.Polygon(row(0, 2), row(4, 4, 4, 4))},
		{sample.Group(7, sample.Group(5, line(), line(1, 1)), sample.Group(7), point(6, 7)), "10", sample.Group(7, sample.Group(5, line(), line(0, 0)), sample.Group(7), point(10, 10))},
	} {
		g, err := affine.Snap(c.g, ratOf(ratio(c.step)))
		if err != nil || !tree.Equal(g, c.want) {
			t.Errorf("P26.2: number %d: Snap(%v, %s) = %x, %v, want %x", i, c.g, c.step, g, err, c.want)
		}
	}
}

// P26.2: what is no tree, ahead of a step that may not be, ahead of what is too great.
func TestSnapRefuses(t *testing.T) {
	bad := append(none(), rat.Int(0), rat.Int(-1), ratOf(ratio("-1/3")), ratOf(minus(two(1024))))
	for _, step := range bad {
		for _, g := range []api.Geom{point(1, 1), point(), sample.Group(api.Collection), line(most, most)} {
			got, err := affine.Snap(g, step)
			refused(t, "P26.2: a step that may not be", got, err, 0, api.ErrStep)
		}
	}
	for _, g := range noTrees() {
		want := tree.Check(g)
		for _, step := range append(bad, rat.Int(1)) {
			got, err := affine.Snap(g, step)
			refused(t, "P26.2: no tree", got, err, api.Place(want), api.Code(want))
		}
	}
}

// P26.2: a result that overflows, at the first coordinate where it is so.
func TestSnapOverflows(t *testing.T) {
	edge := sum(two(1024), minus(two(970)))
	below := sum(edge, big.NewRat(-1, 1))
	ring := row(0, 0, 0, most)
	for i, c := range []struct {
		g    api.Geom
		step *big.Rat
		at   int
	}{
		{sample.Group(4, point(1, 1), point(most, 0)), two(1024), 2},
		{point(most, 0), edge, 0},
		{point(0, -most), edge, 0},
		{point(great, most), two(1022), 0},
		{sample.Group(7, point(1, 1), sample.Polygon(row(0, 0), ring), point(most, 0)), edge, 2},
		{sample.Group(7, sample.Group(7, point(), sample.Group(7)), sample.Group(7, line(1, 1), line(0, 0, 0, most))), edge, 6},
		{point(great, 0), sum(two(1023), two(1022), two(1021), two(1020), two(970)), -1},
		{point(most, -most), below, -1},
	} {
		g, err := affine.Snap(c.g, ratOf(c.step))
		if c.at >= 0 {
			refused(t, "P26.2: too great", g, err, c.at, api.ErrAffine)
		} else if err != nil {
			t.Errorf("P26.2: number %d: Snap(%v) = %x, %v", i, c.g, g, err)
		}
	}
	g, err := affine.Snap(point(most, -most), ratOf(below))
	is(t, "P26.2: a little below what is too great", g, err, point(most, -most))
}

// P26.2: numbers that are too long on the way, and where they are not.
func TestSnapAtTheLimit(t *testing.T) {
	h := two(262143)
	odd := func(num int64, den int64) *big.Rat { // a whole number at about such a share of 2^262144
		n := new(big.Int).Lsh(big.NewInt(num), 262144)
		n.Quo(n, big.NewInt(den)).SetBit(n, 0, 1)
		return new(big.Rat).SetInt(n)
	}
	over := func(p, q *big.Rat) *big.Rat { return new(big.Rat).Quo(p, q) }
	next := sum(h, big.NewRat(1, 1))
	wide := odd(3, 5)
	for i, c := range []struct {
		x    float64
		step *big.Rat
		e    api.Errno
		want float64
	}{
		// Div refuses.
		{3, two(-262143), api.ErrHuge, 0},
		{0.5, h, api.ErrHuge, 0},
		{-2, two(-262143), api.ErrHuge, 0},
		{1, two(-262143), api.OK, 1},
		{-1, two(-262143), api.OK, -1},
		{0, two(-262143), api.OK, 0},
		{1, h, api.OK, 0},
		{3, h, api.OK, 0},
		{-3, h, api.OK, 0},
		{0, odd(9, 10), api.OK, 0},
		// Mul does: 1.6 steps become two, 1.4 one.
		{1, over(h, odd(4, 5)), api.ErrHuge, 0},
		{-1, over(h, odd(4, 5)), api.ErrHuge, 0},
		{1, over(h, odd(7, 10)), api.OK, 5.0 / 7},
		{-1, over(h, odd(7, 10)), api.OK, -5.0 / 7},
		// How many steps it is takes all words that there are, above or below.
		{1, over(next, h), api.OK, 1},
		{-1, over(next, h), api.OK, -1},
		{1, over(h, next), api.OK, 1},
		{-1, over(h, next), api.OK, -1},
		{1, over(wide, sum(wide, two(100))), api.OK, 1},
		{-1, over(wide, sum(wide, two(100))), api.OK, -1},
		{1, over(sum(wide, two(100)), wide), api.OK, 1},
		{-1, over(sum(wide, two(100)), wide), api.OK, -1},
	} {
		for k, p := range []api.Geom{point(c.x, 0), point(0, c.x)} {
			if c.step.Num().BitLen() > 64*api.MaxLimbs || c.step.Denom().BitLen() > 64*api.MaxLimbs {
				t.Fatalf("number %d: no Rat", i)
			}
			g, err := affine.Snap(sample.Group(7, point(), p), ratOf(c.step))
			want := [2]api.Geom{point(c.want, 0), point(0, c.want)}[k]
			switch {
			case c.e != api.OK && (!isFault(err, 2, c.e) || !tree.Equal(g, api.Geom{})):
				t.Errorf("P26.2: number %d: %v, want %d at 2", i, err, c.e)
			case c.e == api.OK && (err != nil || !tree.Equal(g, sample.Group(7, point(), want))):
				t.Errorf("P26.2: number %d: %x, %v, want %x", i, g, err, want)
			}
		}
	}
	// Which of two errors there is hangs on the coordinate that is first.
	h.Mul(h, big.NewRat(1, 2))
	g, err := affine.Snap(line(0, 0, 1, 0.25), ratOf(h))
	refused(t, "P26.2: Y too long", g, err, 0, api.ErrHuge)
	g, err = affine.Snap(sample.Group(4, point(1, 1), point(0.125, 1)), ratOf(h))
	refused(t, "P26.2: X too long", g, err, 2, api.ErrHuge)
	wide = over(two(262143), sum(two(261119), big.NewRat(-1, 1))) // a little above 2^1024
	g, err = affine.Snap(line(0, 0, least, most), ratOf(wide))
	refused(t, "P26.2: X too long, Y overflows", g, err, 0, api.ErrHuge)
	g, err = affine.Snap(line(0, 0, most, least), ratOf(wide))
	refused(t, "P26.2: X overflows, Y too long", g, err, 0, api.ErrAffine)
	g, err = affine.Snap(line(0, most, least, 0), ratOf(wide))
	refused(t, "P26.2: Y overflows, then X is too long", g, err, 0, api.ErrAffine)
}

// P26.3
func TestThin(t *testing.T) {
	for i, c := range []struct {
		l      []api.Point
		square string
		want   []api.Point
	}{
		{row(0, 0, 1, 0, 2, 0), "0", row(0, 0, 2, 0)},
		{row(0, 0, 1, 1, 2, 0), "1", row(0, 0, 2, 0)},
		{row(0, 0, 1, 1, 2, 0), "1/2", row(0, 0, 1, 1, 2, 0)},
		{row(0, 0, 1, 1, 2, 0), "99999999/100000000", row(0, 0, 1, 1, 2, 0)},
		{row(0, 0, 1, 3, 2, 0, 3, 3, 4, 0), "4", row(0, 0, 1, 3, 4, 0)},
		{row(0, 0), "5", row(0, 0)},
		{nil, "5", nil},
		{row(1, 1, 1, 1), "0", row(1, 1, 1, 1)},
		{row(zero, 0, 0, zero), "5", row(zero, 0, 0, zero)},
		{row(1, 1, 1, 1, 1, 1), "0", row(1, 1, 1, 1)},
		{row(0, 0, zero, zero, 0, zero), "0", row(0, 0, 0, zero)},
		{row(zero, 0, zero, 5, 9, zero), "3", row(zero, 0, zero, 5, 9, zero)},
		// The ends at one place: it is the distance from there.
		{row(0, 0, 5, 0, 0, 0), "24", row(0, 0, 5, 0, 0, 0)},
		{row(0, 0, 5, 0, 0, 0), "25", row(0, 0, 0, 0)},
		{row(0, 0, 4, 0, 4, 4, 0, 4, 0, 0), "8", row(0, 0, 4, 4, 0, 0)},
		{row(0, 0, 4, 0, 4, 4, 0, 4, 0, 0), "7", row(0, 0, 4, 0, 4, 4, 0, 4, 0, 0)},
		// Beyond an end the distance is that of the end.
		{row(0, 0, 7, 0, 4, 0), "9", row(0, 0, 4, 0)},
		{row(0, 0, 7, 0, 4, 0), "8", row(0, 0, 7, 0, 4, 0)},
		{row(0, 0, -3, -4, 4, 0), "25", row(0, 0, 4, 0)},
		{row(0, 0, -3, -4, 4, 0), "24", row(0, 0, -3, -4, 4, 0)},
		{row(0, 0, 0, -3, 2, 2, 5, 1, 6, 0), "4", row(0, 0, 0, -3, 2, 2, 6, 0)},
		// Of several that are as far the first.
		{row(0, 0, 1, 5, 3, -5, 4, 0), "24", row(0, 0, 1, 5, 3, -5, 4, 0)},
		{row(0, 0, 1, 2, 5, 2, 6, 0), "3", row(0, 0, 1, 2, 6, 0)},
		{row(6, 0, 5, 2, 1, 2, 0, 0), "3", row(6, 0, 5, 2, 0, 0)},
		{row(0, 0, 2, 2, 2, 2, 4, 0), "0", row(0, 0, 2, 2, 4, 0)},
		// What stays is an end of what is looked through next.
		{row(0, 0, 3, 1, 6, 0, 9, 4, 12, 0), "2", row(0, 0, 6, 0, 9, 4, 12, 0)},
		// By a step of the last place.
		{row(0, 0, 0.5, least, 1, 0), "0", row(0, 0, 0.5, least, 1, 0)},
		{row(0, 0, 0.5, least, 1, 0), "1/" + sample.TwoTo(2148), row(0, 0, 1, 0)},
		{row(0, 0, 0.5, least, 1, 0), "1/" + sample.TwoTo(2149), row(0, 0, 0.5, least, 1, 0)},
		{row(-most, 0, 0, most, most, 0), sample.TwoTo(2048), row(-most, 0, most, 0)},
		{row(-most, 0, 0, most, most, 0), sample.TwoTo(2047), row(-most, 0, 0, most, most, 0)},
		{row(-great, -great, 0, least, great, great), "0", row(-great, -great, 0, least, great, great)},
		{row(-great, -great, least, least, great, great), "0", row(-great, -great, great, great)},
	} {
		l, e := affine.Thin(c.l, ratOf(ratio(c.square)))
		if e != api.OK || !slices.Equal(l, c.want) {
			t.Errorf("P26.3: number %d: Thin(%v, %s) = %v, %d, want %v", i, c.l, c.square, l, e, c.want)
		}
	}
}

// P26.3: too many points, ahead of points that are not finite, ahead of squares that may not be.
func TestThinRefuses(t *testing.T) {
	asks := func(what string, l []api.Point, square api.Rat, code api.Errno) {
		t.Helper()
		if got, e := affine.Thin(l, square); len(got) != 0 || e != code {
			t.Errorf("P26.3: %s: %v, %d, want %d", what, got, e, code)
		}
	}
	bad := append(none(), rat.Int(-1), ratOf(minus(two(-1074))), ratOf(minus(two(200000))))
	lost := api.Point{X: sample.Unfinished()[0]}
	long := make([]api.Point, api.MaxRing+1)
	for _, square := range bad {
		for _, l := range [][]api.Point{nil, row(1, 1), row(1, 1, 2, 2), row(0, 0, 1, 0, 2, 0)} {
			asks("a square that may not be", l, square, api.ErrStep)
		}
		asks("a point that is not finite, and no square", []api.Point{lost}, square, api.ErrSpot)
		asks("too many points, and no square", long, square, api.ErrLoop)
	}
	asks("too many points", long, rat.Int(1), api.ErrLoop)
	long[0] = lost
	asks("too many points, one not finite", long, rat.Int(1), api.ErrLoop)
	for _, b := range sample.Unfinished() {
		for n := 1; n <= 4; n++ {
			for i := range n {
				l := row(0, 0, 1, 0, 2, 0, 3, 0)[:n]
				l[i].X = b
				asks("X not finite", l, rat.Int(1), api.ErrSpot)
				l[i] = api.Point{Y: b}
				asks("Y not finite", l, rat.Int(1), api.ErrSpot)
			}
		}
	}
	l, e := affine.Thin(make([]api.Point, api.MaxRing), rat.Int(0))
	if e != api.OK || len(l) != 2 {
		t.Errorf("P26.3: Thin of 512 points: %d, %d", len(l), e)
	}
}

// P26.3: a square that can't be compared with a greatest one.
func TestThinAtTheLimit(t *testing.T) {
	small, great := two(-262143), two(262143)
	for i, c := range []struct {
		l      []api.Point
		square *big.Rat
		e      api.Errno
		want   []api.Point
	}{
		{row(0, 0, 1, 3, 2, 0), small, api.ErrHuge, nil},
		{row(0, 0, 1, 1, 2, 0), small, api.OK, row(0, 0, 1, 1, 2, 0)},
		{row(0, 0, 1, 0, 2, 0), small, api.OK, row(0, 0, 2, 0)}, // the signs tell
		{row(0, 0, 1, 0.5, 2, 0), great, api.ErrHuge, nil},
		{row(0, 0, 1, 3, 2, 0), great, api.OK, row(0, 0, 2, 0)},
		{row(0, 0, 1, 0, 2, 0), great, api.OK, row(0, 0, 2, 0)},
		{row(0, 0, 2, 0), small, api.OK, row(0, 0, 2, 0)},
		// It is no greatest one that can't be compared.
		{row(0, 0, 1, 0.5, 2, 2, 4, 0), great, api.OK, row(0, 0, 4, 0)},
		// One that is looked at later, ahead of or behind what was found.
		{row(0, 0, 0.5, 0.75, 1, 0, 0, 0), small, api.ErrHuge, nil},
		{row(0, 0, 1, 0, 0.5, 0.75, 0, 0), small, api.ErrHuge, nil},
		{row(0, 0, 1, 0, 0.5, 0, 0, 0), small, api.OK, row(0, 0, 1, 0, 0, 0)},
	} {
		l, e := affine.Thin(c.l, ratOf(c.square))
		if e != c.e || !slices.Equal(l, c.want) {
			t.Errorf("P26.3: number %d: Thin(%v) = %v, %d, want %v, %d", i, c.l, l, e, c.want, c.e)
		}
	}
}

// P26.4: each pair the first ahead of the second; and no Geom ahead of itself.
func TestLess(t *testing.T) {
	nan, inf := math.NaN(), math.Inf(1)
	of := sample.Group
	mixed := func(kind int, l []api.Point, rings [][]api.Point, parts ...api.Geom) api.Geom {
		return api.Geom{Kind: kind, Line: l, Rings: rings, Parts: parts}
	}
	one, two := [][]api.Point{row(1, 1)}, [][]api.Point{row(2, 2)}
	for i, c := range [][2]api.Geom{
		{point(), point(1, 1)},
		{point(zero, 0), point(0, 0)},
		{point(0, zero), point(0, 0)},
		{point(-1, 0), point(1, 0)},
		{point(-2, 0), point(-1, 0)},
		{point(1, 9), point(2, 0)},
		{point(1, -2), point(1, -1)},
		{point(-least, 0), point(zero, 0)},
		{point(0, 0), point(least, 0)},
		{point(-inf, 0), point(-most, 0)},
		{point(most, 0), point(inf, 0)},
		{point(inf, 0), point(nan, 0)},
		{point(0, -nan), point(0, -inf)},
		{point(9, 9), line(0, 0)},
		{line(9, 9), sample.Polygon()},
		{of(api.Points, point(9, 9)), of(api.Lines)},
		{line(), line(0, 0)},
		{line(0, 0), line(0, 0, 1, 1)},
		{line(0, 0, 9, 9), line(1, 1)},
		{line(0, 0, 0, 0), line(0, 0, 0, 1)},
		{sample.Polygon(), sample.Polygon(row(0, 0))},
		{sample.Polygon(row(0, 0)), sample.Polygon(row(0, 0), row(0, 0))},
		{sample.Polygon(row(0, 0), row(0, 0)), sample.Polygon(row(1, 0))},
		{sample.Polygon(row(0, 0), row(1, 1)), sample.Polygon(row(0, 0, 0, 0))},
		{sample.Polygon(nil), sample.Polygon(nil, nil)},
		{sample.Polygon(nil, row(9, 9)), sample.Polygon(row(0, 0))},
		{of(7), of(7, point())},
		{of(7, point(), point()), of(7, line())},
		{of(7, point(1, 1), line()), of(7, point(1, 1), line(0, 0))},
		{of(7, of(7, point(1, 1))), of(7, of(7, point(1, 1), point()))},
		{of(7, of(7), point()), of(7, of(7), line())},
		// Kind tells ahead of Line, Line of Rings, Rings of Parts.
		{mixed(-1, row(1, 1), two, point()), mixed(0, nil, one)},
		{mixed(math.MinInt, row(1, 1), two), mixed(math.MaxInt, nil, nil)},
		{mixed(8, row(1, 1), two, point()), mixed(8, row(1, 2), one)},
		{mixed(8, row(1, 1), one, line()), mixed(8, row(1, 1), two, point())},
		{mixed(1, row(1, 1), one, point(), line()), mixed(1, row(1, 1), one, line(), point())},
	} {
		a, b := c[0], c[1]
		if !affine.Less(a, b) || affine.Less(b, a) {
			t.Errorf("P26.4: number %d: Less(%v, %v): %t, the other way %t", i, a, b, affine.Less(a, b), affine.Less(b, a))
		}
		if affine.Less(a, a) || affine.Less(b, b) {
			t.Errorf("P26.4: number %d: Less of one with itself: %v, %v", i, a, b)
		}
	}
	empty := api.Geom{Kind: 3, Line: []api.Point{}, Rings: [][]api.Point{}, Parts: []api.Geom{}}
	if affine.Less(empty, sample.Polygon()) || affine.Less(sample.Polygon(), empty) {
		t.Error("P26.4: nil and an empty list are two things")
	}
}

// P26.5
func TestNormal(t *testing.T) {
	of := sample.Group
	square, hole := row(0, 0, 4, 0, 4, 4, 0, 4, 0, 0), row(1, 1, 2, 1, 1, 2, 1, 1)
	turned, other := row(1, 1, 1, 2, 2, 1, 1, 1), row(1, 1, 1, 3, 3, 1, 1, 1)
	flat := row(0, 0, 1, 1, 2, 2, 0, 0)
	for i, c := range []struct{ g, want api.Geom }{
		{of(4, point(3, 3), point(), point(1, 1)), of(4, point(), point(1, 1), point(3, 3))},
		{of(4, point(0, 0), point(zero, 0), point(0, zero)), of(4, point(zero, 0), point(0, zero), point(0, 0))},
		{of(4, point(1, 1), point(), point(1, 1), point()), of(4, point(), point(), point(1, 1), point(1, 1))},
		{sample.Polygon(row(4, 4, 4, 0, 0, 0, 0, 4, 4, 4)), sample.Polygon(square)},
		{sample.Polygon(square, hole), sample.Polygon(square, turned)},
		{sample.Polygon(square, row(2, 2, 3, 2, 2, 3, 2, 2), other, hole), sample.Polygon(square, turned, other, row(2, 2, 2, 3, 3, 2, 2, 2))},
		{sample.Polygon(other, square, square), sample.Polygon(back(other), back(square), back(square))},
		{sample.Polygon(row(9, 9), row(8, 8), row(7, 7)), sample.Polygon(row(9, 9), row(7, 7), row(8, 8))},
		{sample.Polygon(row(9, 9), hole, row(1, 1)), sample.Polygon(row(9, 9), row(1, 1), turned)},
		{sample.Polygon(flat, flat), sample.Polygon(flat, flat)},
		{sample.Polygon(back(flat), row(2, 2, 0, 0, 1, 1, 2, 2)), sample.Polygon(flat, flat)},
		{sample.Polygon(), sample.Polygon()},
		{line(1, 1, 0, 0), line(1, 1, 0, 0)},
		{line(2, 2, 0, 0, 1, 0, 2, 2), line(2, 2, 0, 0, 1, 0, 2, 2)},
		{point(1, 2), point(1, 2)},
		{point(), point()},
		{of(7), of(7)},
		{of(7, line(), point()), of(7, point(), line())},
		{of(5, line(3, 3), line(1, 1, 0, 0), line()), of(5, line(), line(1, 1, 0, 0), line(3, 3))},
		{of(6, sample.Polygon(square, hole), sample.Polygon(), sample.Polygon(back(square))), of(6, sample.Polygon(), sample.Polygon(square), sample.Polygon(square, turned))},
		// Within first: that tells the order without.
		{of(7, of(4, point(2, 2), point(1, 1)), of(4, point(1, 1))), of(7, of(4, point(1, 1)), of(4, point(1, 1), point(2, 2)))},
		{of(7, of(7, line(), point(5, 5)), of(7, point(6, 6), point(4, 4))), of(7, of(7, point(4, 4), point(6, 6)), of(7, point(5, 5), line()))},
		{of(7, of(7, of(7, line(), point())), of(7, of(7, point()))), of(7, of(7, of(7, point())), of(7, of(7, point(), line())))},
	} {
		g, err := affine.Normal(c.g)
		if err != nil || !tree.Equal(g, c.want) {
			t.Errorf("P26.5: number %d: Normal(%v) = %v, %v, want %v", i, c.g, g, err, c.want)
		}
	}
}

// P26.5: what is no tree; else the first polygon with a ring that is none.
func TestNormalRefuses(t *testing.T) {
	square := row(0, 0, 4, 0, 4, 4, 0, 4, 0, 0)
	open := sample.Polygon(row(0, 0, 1, 1))
	last := sample.Polygon(square, square, row(0, 0, 1, 0, 0, 1, 0, least))
	of := sample.Group
	for i, c := range []struct {
		g  api.Geom
		at int
	}{
		{of(7, point(), open), 2},
		{open, 0},
		{last, 0},
		{sample.Polygon(square, make([]api.Point, api.MaxRing+1)), 0},
		{sample.Polygon(make([]api.Point, api.MaxRing+1)), 0},
		{of(6, sample.Polygon(square), sample.Polygon(), last, open), 3},
		{of(7, of(7, of(4, point(9, 9), point())), line(0, 0, 1, 1), of(6, sample.Polygon(square), last)), 8},
		{of(7, last, point()), 1},
	} {
		g, err := affine.Normal(c.g)
		if !isFault(err, c.at, api.ErrLoop) || !tree.Equal(g, api.Geom{}) {
			t.Errorf("P26.5: number %d: Normal(%v) = %v, %v, want %d at %d", i, c.g, g, err, api.ErrLoop, c.at)
		}
	}
	// Lines may be open, and of more points; the last place of a ring may have other patterns.
	for _, g := range []api.Geom{line(0, 0, 1, 1), sample.Line(make([]api.Point, 9999)...), sample.Polygon(make([]api.Point, api.MaxRing)), sample.Polygon(row(0, 0, 1, 0, 0, 1, zero, zero))} {
		if _, err := affine.Normal(g); err != nil {
			t.Errorf("P26.5: Normal of %d points: %v", len(tree.Points(g)), err)
		}
	}
	for _, g := range append(noTrees(), of(7, open, api.Geom{Kind: 9}), of(7, open, point(math.Inf(1), 0))) {
		want := tree.Check(g)
		got, err := affine.Normal(g)
		refused(t, "P26.5: no tree", got, err, api.Place(want), api.Code(want))
	}
}
