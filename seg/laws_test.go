package seg_test

import (
	"math/big"
	"slices"
	"sync"
	"testing"

	"plumb/api"
	"plumb/f64"
	"plumb/near"
	"plumb/pred"
	"plumb/sample"
	"plumb/seg"
)

// meet gives a meeting that isn't refused.
func meet(t *testing.T, a, b, c, d api.Point) api.Meeting {
	t.Helper()
	m, e := seg.Meet(a, b, c, d)
	if e != api.OK {
		t.Fatalf("P23.1: Meet(%x, %x, %x, %x): %d", a, b, c, d, e)
	}
	return m
}

// sort tells which of the sorts of meetings one is: none, proper, one place, many.
func sort(m api.Meeting) int {
	switch {
	case m.Proper:
		return 1
	case m.Kind == 0:
		return 0
	}
	return m.Kind + 1
}

// P23.1: as the words say, by the rationals of the library.
func TestMeetAsTheWordsSay(t *testing.T) {
	rule := sample.Rule(231)
	var sorts [4]int
	for range 12000 {
		l := rule.Crowd(4)
		got := meet(t, l[0], l[1], l[2], l[3])
		if want := answered(sample.Meet(l[0], l[1], l[2], l[3])); got != want {
			t.Fatalf("P23.1: Meet(%x) = %+v, want %+v", l, got, want)
		}
		sorts[sort(got)]++
	}
	if slices.Min(sorts[:]) < 800 {
		t.Errorf("too few of a sort: %d", sorts)
	}
}

// P23.2, P23.7: the place is on both lines, and there is none just if they go the same way.
func TestCrossIsOnBothLines(t *testing.T) {
	rule := sample.Rule(232)
	var crossed, parallel int
	for range 4000 {
		l := rule.Crowd(4)
		a, b := sample.ExactOf(l[0]), sample.ExactOf(l[1])
		c, d := sample.ExactOf(l[2]), sample.ExactOf(l[3])
		x, y, e := seg.Cross(l[0], l[1], l[2], l[3])
		if b.Less(a).Cross(d.Less(c)).Sign() == 0 {
			if e != api.ErrParallel || !isZero(x) || !isZero(y) {
				t.Fatalf("P23.2: Cross(%x) = %v, %v, %d", l, x, y, e)
			}
			parallel++
			continue
		}
		if e != api.OK {
			t.Fatalf("P23.2: Cross(%x): %d", l, e)
		}
		p := sample.Exact{X: sample.Ratio(x), Y: sample.Ratio(y)}
		if !sample.IsRat(x, p.X) || !sample.IsRat(y, p.Y) {
			t.Fatalf("P23.2: Cross(%x) = %v, %v: not in lowest terms", l, x, y)
		}
		if b.Less(a).Cross(p.Less(a)).Sign() != 0 || d.Less(c).Cross(p.Less(c)).Sign() != 0 {
			t.Fatalf("P23.7: Cross(%x) = %v isn't on both lines", l, p)
		}
		crossed++
	}
	if crossed < 1000 || parallel < 500 {
		t.Errorf("too few of a kind: %d, %d", crossed, parallel)
	}
}

// P23.3, P23.7: the foot is what its words say, and Far is its distance's square, 0 just on the stretch, and the same
// from the other end.
func TestFootIsNearest(t *testing.T) {
	rule := sample.Rule(233)
	var on, ends, within int
	for range 4000 {
		l := rule.Crowd(3)
		a, b, p := l[0], l[1], l[2]
		x, y, e := seg.Foot(a, b, p)
		if e != api.OK {
			t.Fatalf("P23.3: Foot(%x): %d", l, e)
		}
		f := sample.Exact{X: sample.Ratio(x), Y: sample.Ratio(y)}
		if !sample.IsRat(x, f.X) || !sample.IsRat(y, f.Y) || !isFoot(f, a, b, p) {
			t.Fatalf("P23.3: Foot(%x) = %v", l, f)
		}
		off := f.Less(sample.ExactOf(p))
		far, e := seg.Far(a, b, p)
		if e != api.OK || !sample.IsRat(far, off.Dot(off)) {
			t.Fatalf("P23.3: Far(%x) = %v, %d, want %v", l, far, e, off.Dot(off))
		}
		is, _ := pred.Between(a, b, p)
		if is != (len(far.Num) == 0) {
			t.Fatalf("P23.7: Far(%x) = %v, but Between is %t", l, far, is)
		}
		if back, e := seg.Far(b, a, p); e != api.OK || !sample.IsRat(back, off.Dot(off)) {
			t.Fatalf("P23.7: Far(%x) = %v, %d, from the other end %v", l, far, e, back)
		}
		switch {
		case is:
			on++
		case f.Cmp(sample.ExactOf(a)) == 0 || f.Cmp(sample.ExactOf(b)) == 0:
			ends++
		default:
			within++
		}
	}
	if min(on, ends, within) < 300 {
		t.Errorf("too few of a kind: %d, %d, %d", on, ends, within)
	}
}

// P23.4: as its words say, of few points of all sorts, some closed.
func TestPairsAsTheWordsSay(t *testing.T) {
	rule := sample.Rule(234)
	var met, met0 int
	for range 3000 {
		l := rule.Crowd(rule.Below(11))
		if len(l) > 2 && rule.Below(2) == 0 {
			l = append(l, rule.OtherZeros(l[:1])...)
		}
		got, e := seg.Pairs(l)
		if want := plainPairs(l); e != api.OK || !slices.Equal(got, want) {
			t.Fatalf("P23.4: Pairs(%x) = %v, %d, want %v", l, got, e, want)
		}
		met += len(got)
		if len(got) == 0 {
			met0++
		}
	}
	if met < 5000 || met0 < 300 {
		t.Errorf("too few pairs or too many: %d, none of %d", met, met0)
	}
}

// turned gives points turned about 0.
func turned(l []api.Point) []api.Point {
	out := slices.Clone(l)
	for i, p := range l {
		out[i] = api.Point{X: f64.Neg(p.X), Y: f64.Neg(p.Y)}
	}
	return out
}

// place is a point without the signs of its zeros.
func place(p api.Point) api.Point {
	return sample.ExactOf(p).Rounded()
}

// P23.5
func TestMeetFromAllSides(t *testing.T) {
	rule := sample.Rule(235)
	for range 4000 {
		l := rule.Crowd(4)
		a, b, c, d := l[0], l[1], l[2], l[3]
		m := meet(t, a, b, c, d)
		for _, o := range [][]api.Point{{b, a, c, d}, {a, b, d, c}, {b, a, d, c}, {c, d, a, b}, {d, c, a, b}, {d, c, b, a}, rule.OtherZeros(l)} {
			if n := meet(t, o[0], o[1], o[2], o[3]); n != m {
				t.Fatalf("P23.5: Meet(%x) = %+v, Meet(%x) = %+v", l, m, o, n)
			}
		}
		o := turned(l)
		n := meet(t, o[0], o[1], o[2], o[3])
		ends := []api.Point{m.P, m.Q}
		if m.Kind == 2 {
			ends = []api.Point{m.Q, m.P}
		}
		ends = turned(ends)
		if n.Kind != m.Kind || n.Proper != m.Proper || place(n.P) != place(ends[0]) || place(n.Q) != place(ends[1]) {
			t.Fatalf("P23.5: Meet(%x) = %+v, turned about %+v", l, m, n)
		}
	}
}

// P23.5
func TestCrossFromAllSides(t *testing.T) {
	rule := sample.Rule(2350)
	for range 1500 {
		l := rule.Crowd(4)
		a, b, c, d := l[0], l[1], l[2], l[3]
		x, y, e := seg.Cross(a, b, c, d)
		for _, o := range [][]api.Point{{b, a, c, d}, {a, b, d, c}, {c, d, a, b}, {d, c, b, a}, rule.OtherZeros(l)} {
			v, w, f := seg.Cross(o[0], o[1], o[2], o[3])
			if f != e || told(v, w) != told(x, y) {
				t.Fatalf("P23.5: Cross(%x) = %s, %d, Cross(%x) = %s, %d", l, told(x, y), e, o, told(v, w), f)
			}
		}
		o := turned(l)
		v, w, f := seg.Cross(o[0], o[1], o[2], o[3])
		if f != e || e == api.OK && !(sample.IsRat(v, new(big.Rat).Neg(sample.Ratio(x))) && sample.IsRat(w, new(big.Rat).Neg(sample.Ratio(y)))) {
			t.Fatalf("P23.5: Cross(%x) = %s, turned about %s, %d", l, told(x, y), told(v, w), f)
		}
	}
}

// unlike tells whether c and d are on unlike sides of the line through a and b.
func unlike(a, b, c, d api.Point) bool {
	n, _ := pred.Orient(a, b, c)
	m, _ := pred.Orient(a, b, d)
	return n*m == -1
}

// P23.6, P23.7
func TestMeetGoesWithPred(t *testing.T) {
	rule := sample.Rule(236)
	for range 6000 {
		l := rule.Crowd(4)
		a, b, c, d := l[0], l[1], l[2], l[3]
		m := meet(t, a, b, c, d)
		if m.Proper != (unlike(a, b, c, d) && unlike(c, d, a, b)) {
			t.Fatalf("P23.6: Meet(%x) = %+v, but not by sides", l, m)
		}
		is, _ := pred.Between(a, b, c)
		if n := meet(t, a, b, c, c); (n.Kind == 1) != is || n.Kind > 1 {
			t.Fatalf("P23.6: Meet(%x, %x, %x, %x) = %+v, but Between is %t", a, b, c, c, n, is)
		}
		if m.Proper {
			x, y, _ := seg.Cross(a, b, c, d)
			v, _ := near.Rat(x, api.Even)
			w, _ := near.Rat(y, api.Even)
			if (m.P != api.Point{X: v, Y: w}) {
				t.Fatalf("P23.7: Meet(%x) = %+v, but Cross is rounded to %x, %x", l, m, v, w)
			}
			continue
		}
		if m.Kind > 0 && !slices.ContainsFunc(l, func(p api.Point) bool { return place(p) == m.P }) {
			t.Fatalf("P23.6: Meet(%x) = %+v, which is no end", l, m)
		}
	}
}

// P23.8, P0.2: points stay as they are with their spare room, and an answer is nobody else's memory.
func TestMemory(t *testing.T) {
	rule := sample.Rule(238)
	for range 500 {
		l := sample.RoomyPoints(rule.Crowd(2 + rule.Below(9)))
		whole := slices.Clone(l[:cap(l)])
		got, _ := seg.Pairs(l)
		want := slices.Clone(got)
		room := got[:cap(got)]
		for i := range room {
			room[i] = [2]int{77, 77}
		}
		if !slices.Equal(l[:cap(l)], whole) {
			t.Fatalf("P23.8: what Pairs is handed is changed: %x, before %x", l[:cap(l)], whole)
		}
		if again, _ := seg.Pairs(l); !slices.Equal(again, want) {
			t.Fatalf("P23.8: Pairs(%x) = %v, before %v", l, again, want)
		}
		s := rule.Crowd(4)
		if fault := sample.Memory(func([][]uint64) [][]uint64 { return lists(s) }); fault != "" {
			t.Fatalf("P23.8: of %x: %s", s, fault)
		}
	}
}

// lists are all lists of the Rats that calls answer for these points.
func lists(s []api.Point) [][]uint64 {
	var out [][]uint64
	keep := func(l ...api.Rat) {
		for _, r := range l {
			out = append(out, r.Num, r.Den)
		}
	}
	for range 2 {
		x, y, _ := seg.Cross(s[0], s[1], s[2], s[3])
		v, w, _ := seg.Foot(s[0], s[1], s[2])
		u, _ := seg.Far(s[0], s[1], s[2])
		keep(x, y, v, w, u)
	}
	return out
}

// P0.1: many at once answer as one does.
func TestManyAtOnce(t *testing.T) {
	rule := sample.Rule(230)
	l := rule.Crowd(40)
	want := plainPairs(l)
	var group sync.WaitGroup
	for range 8 {
		group.Go(func() {
			if got, e := seg.Pairs(l); e != api.OK || !slices.Equal(got, want) {
				t.Errorf("P0.1: Pairs(%x) = %v, %d, want %v", l, got, e, want)
			}
			for i := range len(l) - 3 {
				s := l[i : i+4]
				if m, e := seg.Meet(s[0], s[1], s[2], s[3]); m != answered(sample.Meet(s[0], s[1], s[2], s[3])) || e != api.OK {
					t.Errorf("P0.1: Meet(%x) = %+v, %d", s, m, e)
				}
			}
		})
	}
	group.Wait()
}
