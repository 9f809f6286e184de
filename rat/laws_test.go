package rat_test

import (
	"slices"
	"testing"

	"plumb/api"
	"plumb/rat"
	"plumb/sample"
)

// field is the four operations, none of which may be refused.
type field struct {
	add, sub, mul, div func(a, b api.Rat) api.Rat
	cmp                func(a, b api.Rat) int
}

// unrefused gives them.
func unrefused(t *testing.T) field {
	must := func(f operation) func(a, b api.Rat) api.Rat {
		return func(a, b api.Rat) api.Rat {
			t.Helper()
			r, e := f(a, b)
			if e != api.OK {
				t.Fatalf("of %v and %v: refused, %d", a, b, e)
			}
			return r
		}
	}
	order := func(a, b api.Rat) int {
		t.Helper()
		n, e := rat.Cmp(a, b)
		if e != api.OK {
			t.Fatalf("Cmp(%v, %v): refused, %d", a, b, e)
		}
		return n
	}
	return field{must(rat.Add), must(rat.Sub), must(rat.Mul), must(rat.Div), order}
}

// P5.10: two by two.
func TestFieldLawsOfTwo(t *testing.T) {
	f := unrefused(t)
	zero, one := rat.Int(0), rat.Int(1)
	for _, a := range rats() {
		if !same(f.add(a, zero), a) || !same(f.mul(a, one), a) || !same(f.mul(a, zero), zero) || !same(f.div(a, one), a) {
			t.Errorf("%v with 0 or 1 is another", a)
		}
		for _, b := range rats() {
			if !same(f.add(a, b), f.add(b, a)) || !same(f.mul(a, b), f.mul(b, a)) {
				t.Errorf("%v and %v aren't the same the other way round", a, b)
			}
			if !same(f.sub(f.add(a, b), b), a) || !same(f.sub(a, b), f.sub(zero, f.sub(b, a))) {
				t.Errorf("Sub of %v and %v doesn't take Add back", a, b)
			}
			if rat.Sign(b) != 0 && (!same(f.div(f.mul(a, b), b), a) || !same(f.mul(f.div(a, b), b), a)) {
				t.Errorf("Div of %v and %v doesn't take Mul back", a, b)
			}
			if f.cmp(a, b) != rat.Sign(f.sub(a, b)) || f.cmp(a, b) != -f.cmp(b, a) {
				t.Errorf("Cmp(%v, %v) isn't the sign of Sub", a, b)
			}
		}
	}
}

// P5.10: three by three, of such as stand far apart in the row.
func TestFieldLawsOfThree(t *testing.T) {
	f := unrefused(t)
	var some []api.Rat
	for i, a := range rats() {
		if i%4 == 0 {
			some = append(some, a)
		}
	}
	for _, a := range some {
		for _, b := range some {
			for _, c := range some {
				if !same(f.add(f.add(a, b), c), f.add(a, f.add(b, c))) || !same(f.mul(f.mul(a, b), c), f.mul(a, f.mul(b, c))) {
					t.Fatalf("%v, %v, %v can't be put together as one likes", a, b, c)
				}
				if !same(f.mul(a, f.add(b, c)), f.add(f.mul(a, b), f.mul(a, c))) {
					t.Fatalf("Mul by %v doesn't spread over %v and %v", a, b, c)
				}
				order := f.cmp(a, b)
				if f.cmp(f.add(a, c), f.add(b, c)) != order {
					t.Fatalf("Cmp(%v, %v) doesn't go with Add of %v", a, b, c)
				}
				if rat.Sign(c) > 0 && f.cmp(f.mul(a, c), f.mul(b, c)) != order {
					t.Fatalf("Cmp(%v, %v) doesn't go with Mul by %v", a, b, c)
				}
			}
		}
	}
}

// P5.10
func TestFloorLaws(t *testing.T) {
	f := unrefused(t)
	for _, a := range rats() {
		floor, e := rat.Floor(a)
		if e != api.OK || !slices.Equal(floor.Den, list{1}) || f.cmp(floor, a) > 0 || f.cmp(a, f.add(floor, rat.Int(1))) >= 0 {
			t.Errorf("Floor(%v) = %v, %d", a, floor, e)
		}
	}
}

// answers are all lists that calls answer for a and b.
func answers(a, b api.Rat) []list {
	var out []list
	keep := func(r api.Rat, _ api.Errno) { out = append(out, r.Num, r.Den) }
	one := rat.Int(1)
	for _, f := range []operation{rat.Add, rat.Sub, rat.Mul, rat.Div} {
		keep(f(a, b))
		keep(f(a, a))
		keep(f(a, rat.Int(0)))
		keep(f(rat.Int(0), a))
		keep(f(a, one))
	}
	keep(rat.New(a.Neg, a.Num, a.Den))
	keep(rat.New(b.Neg, a.Den, a.Den))
	keep(rat.Floor(a))
	keep(rat.Int(1), api.OK)
	keep(rat.Int(-7), api.OK)
	keep(rat.Int(0), api.OK)
	s, _ := rat.Text(a)
	back, _ := rat.Parse(s)
	keep(back, api.OK)
	order, _ := rat.Cmp(a, b)
	return append(out, list{uint64(order), uint64(rat.Sign(a)), uint64(rat.Check(a))})
}

// P5.9, P0.1, P0.2: what is handed in stays as it is with its spare room, and what is done to an answer is seen nowhere else.
func TestMemory(t *testing.T) {
	for _, a := range rats() {
		for _, b := range rats() {
			calls := func(in []list) []list {
				return answers(api.Rat{Neg: a.Neg, Num: in[0], Den: in[1]}, api.Rat{Neg: b.Neg, Num: in[2], Den: in[3]})
			}
			if fault := sample.Memory(calls, a.Num, a.Den, b.Num, b.Den); fault != "" {
				t.Fatalf("of %v and %v: %s", a, b, fault)
			}
		}
	}
}
