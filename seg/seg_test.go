package seg_test

import (
	"math"
	"slices"
	"testing"

	"plumb/api"
	"plumb/rat"
	"plumb/sample"
	"plumb/seg"
)

var (
	above2 = math.Nextafter(2, 3)
	below2 = math.Nextafter(2, 1)
)

// meeting gives one at the place, or from the first to the second, of these numbers.
func meeting(kind int, proper bool, l ...float64) api.Meeting {
	p := append(row(l...), api.Point{}, api.Point{})
	return api.Meeting{Kind: kind, Proper: proper, P: p[0], Q: p[1]}
}

// P23.1
func TestMeet(t *testing.T) {
	none := api.Meeting{}
	for _, c := range []struct {
		in   []api.Point
		want api.Meeting
	}{
		{row(0, 0, 2, 2, 0, 2, 2, 0), meeting(1, true, 1, 1)},
		{row(0, 0, 3, 0, 1, 0, 1, 5), meeting(1, false, 1, 0)},
		{row(0, 0, 1, 0, 2, 0, 3, 0), none},
		{row(0, 0, 1, 1, 2, 0, 3, 1), none},
		{row(0, 0, 3, 0, 5, 0, 1, 0), meeting(2, false, 1, 0, 3, 0)},
		{row(0, 0, 1, 0, 1, 0, 2, 0), meeting(1, false, 1, 0)},
		{row(1, 1, 1, 1, 0, 0, 2, 2), meeting(1, false, 1, 1)},
		{row(1, 1, 1, 1, 1, 1, 1, 1), meeting(1, false, 1, 1)},
		{row(1, 1, 1, 1, 1, 2, 1, 2), none},
		{row(1, 1, 1, 1, 0, 0, 2, 3), none},
		{row(3, 3, 3, 3, 0, 0, 2, 2), none},
		{row(0, 0, 3, 3, 3, 3, 0, 0), meeting(2, false, 0, 0, 3, 3)},
		{row(0, 0, 3, 1, 0, 1, 3, 0), meeting(1, true, 1.5, 0.5)},
		{row(0, 0, 1, 3, 0, 1, 1, 0), meeting(1, true, 0.25, 0.75)},
		{row(0, 0, 3, 3, 0, 1, 1, 0), meeting(1, true, 0.5, 0.5)},
		// One line: apart, end to end, one in the other, upright, downwards, with one end in common.
		{row(0, 0, 0, 4, 0, 9, 0, 1), meeting(2, false, 0, 1, 0, 4)},
		{row(0, 4, 0, 0, 0, 4, 0, 9), meeting(1, false, 0, 4)},
		{row(0, 0, 9, -9, 3, -3, 5, -5), meeting(2, false, 3, -3, 5, -5)},
		{row(0, 9, 9, 0, 9, 0, 4, 5), meeting(2, false, 4, 5, 9, 0)},
		{row(0, 0, 1, 1, 2, 2, 3, 3), none},
		{row(0, 0, 2, 0, 0, 0, -2, 0), meeting(1, false, 0, 0)},
		// Parallel, and each on one side of the other's line, though their boxes meet.
		{row(0, 0, 4, 4, 0, 1, 4, 5), none},
		{row(0, 0, 4, 4, 4, 0, 3, 1), none},
		{row(0, 0, 4, 4, 3, 1, 4, 0), none},
		{row(0, 0, 4, 4, 1, 0, 5, 1), none},
		// An end of the one on the other, at its end, on its line beyond it.
		{row(0, 0, 4, 4, 4, 0, 2, 2), meeting(1, false, 2, 2)},
		{row(0, 0, 4, 4, 4, 4, 5, 0), meeting(1, false, 4, 4)},
		{row(0, 0, 4, 4, 5, 5, 5, 0), none},
		{row(4, 0, 2, 2, 4, 4, 0, 0), meeting(1, false, 2, 2)},
		// By one step.
		{row(0, 0, 4, 4, 4, 2, 2, 2), meeting(1, false, 2, 2)},
		{row(0, 0, 4, 4, 4, 2, above2, 2), none},
		{row(0, 0, 4, 4, 4, 2, below2, 2), meeting(1, true, 2, 2)},
		{row(0, 0, 2, 0, 2, 0, 5, 0), meeting(1, false, 2, 0)},
		{row(0, 0, 2, 0, above2, 0, 5, 0), none},
		{row(0, 0, 2, 0, below2, 0, 5, 0), meeting(2, false, below2, 0, 2, 0)},
		{row(0, 0, great, great, 0, least, great, great), meeting(1, false, great, great)},
		{row(-most, -most, most, most, -most, most, most, -most), meeting(1, true, 0, 0)},
		{row(-most, 0, most, 0, 0, 0, 0, most), meeting(1, false, 0, 0)},
		{row(-most, 0, most, 0, 0, least, 0, most), none},
		{row(-most, 0, most, 0, 0, -least, 0, most), meeting(1, true, 0, 0)},
	} {
		got, e := seg.Meet(c.in[0], c.in[1], c.in[2], c.in[3])
		if got != c.want || e != api.OK {
			t.Errorf("P23.1: Meet(%x) = %+v, %d, want %+v", c.in, got, e, c.want)
		}
		if plain := answered(sample.Meet(c.in[0], c.in[1], c.in[2], c.in[3])); plain != c.want {
			t.Errorf("P23.1: the plain meeting of %x is %+v, want %+v", c.in, plain, c.want)
		}
	}
}

// P23.1: places are rounded once, to the even one where two are as near; of an exact 0 comes 0, of what is rounded to it
// from below -0.
func TestMeetRounds(t *testing.T) {
	third, thirds := uint64(0x3fd5555555555555), uint64(0x3fe5555555555555)
	for _, c := range []struct {
		in   []api.Point
		want api.Meeting
	}{
		{row(0, 0, 1, 2, 0, 1, 1, 0), api.Meeting{Kind: 1, Proper: true, P: api.Point{X: third, Y: thirds}}},
		{row(zero, 0, 0, 0, 0, zero, 5, 5), api.Meeting{Kind: 1}},
		{row(zero, zero, zero, zero, zero, zero, zero, zero), api.Meeting{Kind: 1}},
		{row(zero, 1, 5, 1, zero, 1, 7, 1), meeting(2, false, 0, 1, 5, 1)},
		{row(-3, zero, zero, zero, -5, zero, zero, 0), meeting(2, false, -3, 0, 0, 0)},
		{row(-1, -1, 1, 1, -1, 1, 1, -1), api.Meeting{Kind: 1, Proper: true}},
		{row(0, 0, least, least, 0, least, least, 0), meeting(1, true, 0, 0)},
		{row(0, 0, -least, least, 0, least, -least, 0), meeting(1, true, zero, 0)},
		{row(0, 0, -least, -least, 0, -least, -least, 0), meeting(1, true, zero, zero)},
		{row(least, least, 2*least, 2*least, least, 2*least, 2*least, least), meeting(1, true, 2*least, 2*least)},
		{row(0, 0, 3*least, least, 0, least, 3*least, 0), meeting(1, true, 2*least, 0)},
		{row(0, 0, above2, above2, 0, 2, 2, 0), meeting(1, true, 1, 1)},
	} {
		if got, e := seg.Meet(c.in[0], c.in[1], c.in[2], c.in[3]); got != c.want || e != api.OK {
			t.Errorf("P23.1: Meet(%x) = %+v, %d, want %+v", c.in, got, e, c.want)
		}
	}
}

// told gives two Rats as texts.
func told(x, y api.Rat) [2]string {
	a, _ := rat.Text(x)
	b, _ := rat.Text(y)
	return [2]string{a, b}
}

// isZero tells whether a Rat is the zero value.
func isZero(r api.Rat) bool {
	return !r.Neg && len(r.Num)+len(r.Den) == 0
}

// P23.2
func TestCross(t *testing.T) {
	for _, c := range []struct {
		in   []api.Point
		x, y string
	}{
		{row(0, 0, 1, 0, 5, -1, 5, 1), "5", "0"},
		{row(0, 0, 1, 2, 0, 1, 1, 0), "1/3", "2/3"},
		{row(0, 0, 1, 1, 0, -4, 1, -3.5), "-8", "-8"},
		{row(0, 0, 2, 2, 2, 2, 3, 0), "2", "2"},
		{row(2, 2, 0, 0, 3, 0, 2, 2), "2", "2"},
		{row(zero, zero, 0, 1, 1, 0, zero, zero), "0", "0"},
		{row(0.1, 0, 0.1, 1, 0, 0.5, 1, 0.5), "3602879701896397/36028797018963968", "1/2"},
		{row(1, 1, 2, 2, -5, 7, -5, -7), "-5", "-5"},
		// Far beyond all patterns, and nearer to 0.
		{row(0, 0, great, least, 0, 1, great, 1), sample.TwoTo(2097), "1"},
		{row(0, 0, least, great, 1, 0, 1, great), "1", sample.TwoTo(2097)},
		{row(0, 0, great, least, least, 0, least, 1), sample.TwoTo(-1074), sample.TwoTo(-1074 - 1023 - 1074)},
		// Lines that are nearly one.
		{row(0, 0, great, great, 0, least, great, great), sample.TwoTo(1023), sample.TwoTo(1023)},
	} {
		x, y, e := seg.Cross(c.in[0], c.in[1], c.in[2], c.in[3])
		if e != api.OK || told(x, y) != [2]string{c.x, c.y} {
			t.Errorf("P23.2: Cross(%x) = %s, %d, want %s, %s", c.in, told(x, y), e, c.x, c.y)
		}
	}
}

// P23.2: one place twice, parallel lines, one line.
func TestNoCross(t *testing.T) {
	for _, l := range [][]api.Point{
		row(0, 0, 1, 1, 1, 0, 2, 1),
		row(0, 0, 1, 1, 2, 2, 3, 3),
		row(0, 0, 1, 1, 1, 1, 0, 0),
		row(0, 0, 0, 0, 1, 0, 2, 1),
		row(1, 0, 2, 1, 0, 0, zero, 0),
		row(1, 1, 1, 1, 0, 0, 2, 2),
		row(1, 1, 1, 1, 1, 1, 1, 1),
		row(1, 1, 1, 1, 2, 2, 2, 2),
		row(0, 0, 0, 1, 5, 1, 5, 0),
		row(0, 0, great, great, -great, 0, 0, great),
		row(least, 0, 2*least, least, great, great, -great, -great),
	} {
		if x, y, e := seg.Cross(l[0], l[1], l[2], l[3]); e != api.ErrParallel || !isZero(x) || !isZero(y) {
			t.Errorf("P23.2: Cross(%x) = %v, %v, %d", l, x, y, e)
		}
	}
}

// P23.3
func TestFootAndFar(t *testing.T) {
	for _, c := range []struct {
		in        []api.Point
		x, y, far string
	}{
		{row(0, 0, 4, 0, 1, 3), "1", "0", "9"},
		{row(4, 0, 0, 0, 1, 3), "1", "0", "9"},
		{row(0, 0, 4, 0, 9, 3), "4", "0", "34"},
		{row(0, 0, 4, 0, -9, 3), "0", "0", "90"},
		{row(0, 0, 1, 2, 1, 0), "1/5", "2/5", "4/5"},
		{row(1, 1, 1, 1, 4, 5), "1", "1", "25"},
		{row(1, 1, 1, 1, 1, 1), "1", "1", "0"},
		{row(zero, 0, 0, zero, 0, 2), "0", "0", "4"},
		{row(0, 0, 4, 0, -1, 0), "0", "0", "1"},
		{row(0, 0, 4, 4, 2, 2), "2", "2", "0"},
		{row(0, 0, 4, 4, 4, 4), "4", "4", "0"},
		// Just over an end, and a step on either side of there.
		{row(0, 0, 2, 0, 2, 5), "2", "0", "25"},
		{row(0, 0, 2, 0, below2, 5), "9007199254740991/4503599627370496", "0", "25"},
		{row(0, 0, 2, 0, 0, -5), "0", "0", "25"},
		{row(0, 0, 2, 0, least, -5), sample.TwoTo(-1074), "0", "25"},
		{row(0, 0, 2, 0, -least, 0), "0", "0", sample.TwoTo(-2148)},
		{row(-great, 0, great, 0, 0, least), "0", "0", sample.TwoTo(-2148)},
		{row(0, 0, 0, 0, great, great), "0", "0", sample.TwoTo(2047)},
		{row(-great, -great, great, great, great, -great), "0", "0", sample.TwoTo(2047)},
	} {
		x, y, e := seg.Foot(c.in[0], c.in[1], c.in[2])
		if e != api.OK || told(x, y) != [2]string{c.x, c.y} {
			t.Errorf("P23.3: Foot(%x) = %s, %d, want %s, %s", c.in, told(x, y), e, c.x, c.y)
		}
		far, e := seg.Far(c.in[0], c.in[1], c.in[2])
		if e != api.OK || told(far, far)[0] != c.far {
			t.Errorf("P23.3: Far(%x) = %s, %d, want %s", c.in, told(far, far)[0], e, c.far)
		}
	}
}

// P23.4
func TestPairs(t *testing.T) {
	type pairs = [][2]int
	for _, c := range []struct {
		in   []api.Point
		want pairs
	}{
		{row(0, 0, 2, 2, 2, 0, 0, 2), pairs{{0, 2}}},
		{row(0, 0, 1, 0, 1, 1, 0, 0), nil},
		{row(0, 0, 1, 0, 1, 1, zero, zero), nil},
		{row(0, 0, 2, 0, 1, 0), pairs{{0, 1}}},
		{row(0, 0, 1, 0, 0, 0), pairs{{0, 1}}},
		{row(0, 0, 1, 0, 1, 0, 2, 0), pairs{{0, 2}}},
		{row(0, 0), nil},
		{nil, nil},
		{row(0, 0, 1, 1), nil},
		{row(0, 0, 0, 0), nil},
		{row(0, 0, 0, zero, zero, 0), nil},
		// One place: all are neighbours but the first and the third, and those are if there are just three.
		{row(1, 1, 1, 1, 1, 1, 1, 1), nil},
		{row(1, 1, 1, 1, 1, 1, 1, 1, 1, 1), pairs{{0, 2}, {1, 3}}},
		// The first and the last: neighbours that lie on one another; not neighbours, since the ends aren't one place.
		{row(0, 0, 2, 0, 1, 0, 0, 0), pairs{{0, 1}, {0, 2}}},
		{row(0, 0, 2, 0, 2, 2, 1, 0, 0, 0), pairs{{0, 2}, {0, 3}}},
		{row(0, 0, 2, 0, 2, 2, 0, 2, 0, 1), nil},
		{row(0, 0, 2, 0, 2, 2, 0, 2, 1, 0), pairs{{0, 3}}},
		{row(0, 0, 2, 0, 2, 2, 0, 2, 0, -1), pairs{{0, 3}}},
		{row(0, 0, 2, 0, 2, 2, 0, 2, zero, 0), nil},
		// A place that comes again within the line.
		{row(0, 0, 1, 1, 2, 0, 1, 1, 0, 2), pairs{{0, 2}, {0, 3}, {1, 2}, {1, 3}}},
		{row(0, 0, 4, 0, 4, 4, 2, -1, 2, 1), pairs{{0, 2}, {0, 3}}},
		{row(0, 0, 4, 0, 4, 4, 2, 0, 0, 0), pairs{{0, 2}, {0, 3}}},
		{row(0, 0, 4, 0, 2, least, 0, -least), pairs{{0, 2}}},
		{row(0, 0, 4, 0, 2, least, 0, least), nil},
	} {
		got, e := seg.Pairs(c.in)
		if e != api.OK || !slices.Equal(got, c.want) {
			t.Errorf("P23.4: Pairs(%x) = %v, %d, want %v", c.in, got, e, c.want)
		}
		if plain := plainPairs(c.in); !slices.Equal(plain, c.want) {
			t.Errorf("P23.4: the plain pairs of %x are %v, want %v", c.in, plain, c.want)
		}
	}
}

// P23.4: of as many points as may be: a fan whose stretches all meet, and a round one whose stretches don't.
func TestPairsOfMost(t *testing.T) {
	var fan, round []api.Point
	for i := range api.MaxRing {
		height := float64(i)
		fan = append(fan, at(float64(i%2), height-2*height*float64(i%2)))
		round = append(round, at(height, height*height))
	}
	round[api.MaxRing-1] = round[0]
	var want [][2]int
	for i := range api.MaxRing - 1 {
		for j := i + 2; j < api.MaxRing-1; j++ {
			want = append(want, [2]int{i, j})
		}
	}
	if got, e := seg.Pairs(fan); e != api.OK || !slices.Equal(got, want) {
		t.Errorf("P23.4: Pairs of a fan: %d, %d, want %d", len(got), e, len(want))
	}
	if got, e := seg.Pairs(round); e != api.OK || len(got) != 0 {
		t.Errorf("P23.4: Pairs of a round: %d, %d", len(got), e)
	}
	fan = append(fan, at(5, 5))
	if got, e := seg.Pairs(fan); e != api.ErrLoop || len(got) != 0 {
		t.Errorf("P23.4: Pairs of %d points: %d, %d", len(fan), len(got), e)
	}
	fan[3].Y = 0x7ff0000000000000
	if got, e := seg.Pairs(fan); e != api.ErrLoop || len(got) != 0 {
		t.Errorf("P23.4: Pairs of %d points, one of them not finite: %d, %d", len(fan), len(got), e)
	}
	if got, e := seg.Pairs(fan[:api.MaxRing]); e != api.ErrSpot || len(got) != 0 {
		t.Errorf("P23.4: Pairs of a fan with a point that is not finite: %d, %d", len(got), e)
	}
}

// refused tells which calls with these points aren't refused as they should be; those that take three only if three.
func refused(l []api.Point, three bool) []string {
	var out []string
	note := func(name string, ok bool) {
		if !ok {
			out = append(out, name)
		}
	}
	m, e := seg.Meet(l[0], l[1], l[2], l[3])
	note("P23.1: Meet", m == api.Meeting{} && e == api.ErrSpot)
	x, y, e := seg.Cross(l[0], l[1], l[2], l[3])
	note("P23.2: Cross", isZero(x) && isZero(y) && e == api.ErrSpot)
	pairs, e := seg.Pairs(l)
	note("P23.4: Pairs", len(pairs) == 0 && e == api.ErrSpot)
	if three {
		x, y, e = seg.Foot(l[0], l[1], l[2])
		note("P23.3: Foot", isZero(x) && isZero(y) && e == api.ErrSpot)
		x, e = seg.Far(l[0], l[1], l[2])
		note("P23.3: Far", isZero(x) && e == api.ErrSpot)
	}
	return out
}

// ErrSpot: of each call, in each of its patterns, whatever the other ones are, so that nothing crosses too.
func TestNotFinite(t *testing.T) {
	for _, bad := range sample.Unfinished() {
		for _, good := range []api.Point{{}, at(1, 2), at(great, least)} {
			for i := range 8 {
				l := []api.Point{good, good, at(3, 4), at(-1, 0)}
				coordinate := &l[i/2].X
				if i%2 == 1 {
					coordinate = &l[i/2].Y
				}
				*coordinate = bad
				if wrong := refused(l, i < 6); len(wrong) > 0 {
					t.Errorf("%q of %x are not refused", wrong, l)
				}
				if got, e := seg.Pairs(l[i/2 : i/2+1]); len(got) != 0 || e != api.ErrSpot {
					t.Errorf("P23.4: Pairs(%x) = %v, %d", l[i/2:i/2+1], got, e)
				}
			}
		}
	}
}
