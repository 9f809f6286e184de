package pred_test

import (
	"slices"
	"sync"
	"testing"

	"plumb/api"
	"plumb/pred"
	"plumb/sample"
)

// orient gives an orientation that isn't refused.
func orient(t *testing.T, a, b, c api.Point) int {
	t.Helper()
	n, e := pred.Orient(a, b, c)
	if e != api.OK {
		t.Fatalf("P22.1: Orient(%x, %x, %x): %d", a, b, c, e)
	}
	return n
}

// inCircle does so of a circle.
func inCircle(t *testing.T, a, b, c, d api.Point) int {
	t.Helper()
	n, e := pred.InCircle(a, b, c, d)
	if e != api.OK {
		t.Fatalf("P22.2: InCircle(%x, %x, %x, %x): %d", a, b, c, d, e)
	}
	return n
}

// P22.1 to P22.5: as the formulas say, by the rationals of the library.
func TestAsTheFormulasSay(t *testing.T) {
	rule := sample.Rule(221)
	var turns, circles, nearer [3]int
	onStretch := 0
	for range 6000 {
		l := rule.Row(4)
		a, b, c, d := l[0], l[1], l[2], l[3]
		area := plainArea2(a, b, c)
		if got, e := pred.Area2(a, b, c); e != api.OK || !sample.IsRat(got, area) {
			t.Fatalf("P22.1: Area2(%x) = %v, %d, want %v", l[:3], got, e, area)
		}
		turn := orient(t, a, b, c)
		if turn != area.Sign() {
			t.Fatalf("P22.1: Orient(%x) = %d, want %d", l[:3], turn, area.Sign())
		}
		circle := inCircle(t, a, b, c, d)
		if want := plainInCircle(a, b, c, d); circle != want {
			t.Fatalf("P22.2: InCircle(%x) = %d, want %d", l, circle, want)
		}
		is, e := pred.Between(a, b, c)
		if is != plainBetween(a, b, c) || e != api.OK {
			t.Fatalf("P22.3: Between(%x) = %t, %d", l[:3], is, e)
		}
		n, e := pred.Nearer(a, b, c, d)
		if n != plainNearer(a, b, c, d) || e != api.OK {
			t.Fatalf("P22.4: Nearer(%x) = %d, %d", l, n, e)
		}
		if o, e := pred.Order(a, b); o != plainOrder(a, b) || e != api.OK {
			t.Fatalf("P22.5: Order(%x) = %d, %d", l[:2], o, e)
		}
		turns[turn+1]++
		circles[circle+1]++
		nearer[n+1]++
		if is {
			onStretch++
		}
	}
	if slices.Min(turns[:]) < 300 || slices.Min(circles[:]) < 300 || slices.Min(nearer[:]) < 50 || onStretch < 300 {
		t.Errorf("too few of a kind: %d, %d, %d, %d", turns, circles, nearer, onStretch)
	}
}

// P22.7: turned round about, and with two changed about.
func TestChangedAbout(t *testing.T) {
	rule := sample.Rule(227)
	for range 3000 {
		l := rule.Row(4)
		a, b, c, d := l[0], l[1], l[2], l[3]
		n, m := orient(t, a, b, c), inCircle(t, a, b, c, d)
		if orient(t, b, c, a) != n || orient(t, c, a, b) != n || orient(t, b, a, c) != -n || orient(t, a, c, b) != -n || orient(t, c, b, a) != -n {
			t.Fatalf("P22.7: Orient(%x) is another when its points are handed in otherwise", l[:3])
		}
		if inCircle(t, b, c, a, d) != m || inCircle(t, c, a, b, d) != m || inCircle(t, b, a, c, d) != -m || inCircle(t, a, c, b, d) != -m || inCircle(t, c, b, a, d) != -m {
			t.Fatalf("P22.7: InCircle(%x) is another when its points are handed in otherwise", l)
		}
		if is, _ := pred.Between(a, b, c); is && n != 0 {
			t.Fatalf("P22.7: Between(%x), which isn't on the line", l[:3])
		}
	}
}

// P22.7: a place hangs on numbers alone: 0 and -0 are one.
func TestZerosAreOne(t *testing.T) {
	rule := sample.Rule(2270)
	for range 2000 {
		l := rule.Row(4)
		m := rule.OtherZeros(l)
		is, _ := pred.Between(l[0], l[1], l[2])
		other, _ := pred.Between(m[0], m[1], m[2])
		near, _ := pred.Nearer(l[0], l[1], l[2], l[3])
		nearer, _ := pred.Nearer(m[0], m[1], m[2], m[3])
		before, _ := pred.Order(l[0], l[1])
		behind, _ := pred.Order(m[0], m[1])
		if orient(t, l[0], l[1], l[2]) != orient(t, m[0], m[1], m[2]) || inCircle(t, l[0], l[1], l[2], l[3]) != inCircle(t, m[0], m[1], m[2], m[3]) || is != other || near != nearer || before != behind {
			t.Fatalf("P22.7: of %x and %x the answers differ", l, m)
		}
	}
}

// P22.6: as its words say, of few points of all sorts.
func TestHullAsItsWordsSay(t *testing.T) {
	rule := sample.Rule(226)
	var sizes [9]int
	for range 2500 {
		l := rule.Row(rule.Below(9))
		got, e := pred.Hull(l)
		if want := plainHull(l); e != api.OK || !slices.Equal(got, want) {
			t.Fatalf("P22.6: Hull(%x) = %x, %d, want %x", l, got, e, want)
		}
		sizes[len(got)]++
	}
	if slices.Min(sizes[:7]) < 20 {
		t.Errorf("too few of a size: %d", sizes)
	}
}

// P22.7: of more points: none on an outer side, corners that turn left, and nothing left for another hull to take away.
func TestHullHoldsAll(t *testing.T) {
	rule := sample.Rule(2262)
	for range 60 {
		l := rule.Row(30 + rule.Below(60))
		h, e := pred.Hull(l)
		if e != api.OK {
			t.Fatalf("P22.6: Hull(%x): %d", l, e)
		}
		for i, a := range h {
			b, c := h[(i+1)%len(h)], h[(i+2)%len(h)]
			if len(h) > 2 && orient(t, a, b, c) != 1 {
				t.Fatalf("P22.6: Hull(%x) = %x doesn't turn left at %d", l, h, i)
			}
			if o, _ := pred.Order(h[0], a); i > 0 && o != -1 {
				t.Fatalf("P22.6: Hull(%x) = %x doesn't begin at the least one", l, h)
			}
			first := l[slices.IndexFunc(l, func(p api.Point) bool { return plainOrder(p, a) == 0 })]
			if first != a {
				t.Fatalf("P22.6: Hull(%x) has %x, where %x stands first", l, a, first)
			}
			for _, p := range l {
				if orient(t, a, b, p) == -1 {
					t.Fatalf("P22.7: %x lies outside of Hull(%x)", p, l)
				}
			}
		}
		if again, e := pred.Hull(h); e != api.OK || !slices.Equal(again, h) {
			t.Fatalf("P22.7: Hull(%x) = %x, %d", h, again, e)
		}
	}
}

// P22.6, P22.7: the corners are the same in whatever order the points come.
func TestHullOfAnyOrder(t *testing.T) {
	rule := sample.Rule(2263)
	for range 200 {
		l := rule.Row(3 + rule.Below(10))
		h, _ := pred.Hull(l)
		for i := range l {
			j := rule.Below(len(l))
			l[i], l[j] = l[j], l[i]
		}
		other, e := pred.Hull(l)
		if e != api.OK || !slices.EqualFunc(h, other, func(p, q api.Point) bool { return plainOrder(p, q) == 0 }) {
			t.Fatalf("P22.6: Hull(%x) = %x, %d, in another order %x", l, other, e, h)
		}
	}
}

// P22.8, P0.2: points stay as they are with their spare room, and an answer is nobody else's memory.
func TestMemory(t *testing.T) {
	rule := sample.Rule(228)
	for range 300 {
		l := sample.RoomyPoints(rule.Row(rule.Below(9)))
		whole := slices.Clone(l[:cap(l)])
		h, _ := pred.Hull(l)
		want := slices.Clone(h)
		room := h[:cap(h)]
		for i := range room {
			room[i] = at(77, 77)
		}
		if !slices.Equal(l[:cap(l)], whole) {
			t.Fatalf("P22.8: what Hull is handed is changed: %x, before %x", l[:cap(l)], whole)
		}
		if again, _ := pred.Hull(l); !slices.Equal(again, want) {
			t.Fatalf("P22.8: Hull(%x) = %x, before %x", l, again, want)
		}
		s := rule.Row(3)
		calls := func([][]uint64) [][]uint64 {
			r, _ := pred.Area2(s[0], s[1], s[2])
			q, _ := pred.Area2(s[0], s[1], s[2])
			return [][]uint64{r.Num, r.Den, q.Num, q.Den}
		}
		if fault := sample.Memory(calls); fault != "" {
			t.Fatalf("P22.8: Area2(%x): %s", s, fault)
		}
	}
}

// P0.1: many at once answer as one does.
func TestManyAtOnce(t *testing.T) {
	rule := sample.Rule(220)
	l := rule.Row(60)
	want, _ := pred.Hull(l)
	var group sync.WaitGroup
	for range 8 {
		group.Go(func() {
			if got, e := pred.Hull(l); e != api.OK || !slices.Equal(got, want) {
				t.Errorf("P0.1: Hull = %x, %d, want %x", got, e, want)
			}
			for i := range len(l) - 3 {
				if n, e := pred.InCircle(l[i], l[i+1], l[i+2], l[i+3]); n != plainInCircle(l[i], l[i+1], l[i+2], l[i+3]) || e != api.OK {
					t.Errorf("P0.1: InCircle(%x) = %d, %d", l[i:i+4], n, e)
				}
			}
		})
	}
	group.Wait()
}
