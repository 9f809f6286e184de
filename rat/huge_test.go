package rat_test

import (
	"testing"

	"plumb/api"
	"plumb/rat"
	"plumb/sample"
)

// power gives two to the n.
func power(n int) list {
	return sample.With(sample.Of(n/64, 0), 1<<(n%64))
}

// whole gives the Rat of a number.
func whole(num list) api.Rat {
	return api.Rat{Num: num, Den: list{1}}
}

// part gives one by a number.
func part(den list) api.Rat {
	return api.Rat{Num: list{1}, Den: den}
}

// limit is a call at the limit: want is empty where it is refused.
type limit struct {
	name string
	f    operation
	a, b api.Rat
	want api.Rat
}

// run holds each call to its answer, or to ErrHuge.
func run(t *testing.T, limits []limit) {
	t.Helper()
	for _, c := range limits {
		got, e := c.f(c.a, c.b)
		if len(c.want.Den) == 0 {
			refused(t, c.name, got, e, api.ErrHuge)
		} else if e != api.OK || !same(got, c.want) {
			t.Errorf("%s: %d words by %d, error %d", c.name, len(got.Num), len(got.Den), e)
		}
	}
}

// P5.3: each of n, m, d and n + m by itself.
func TestAddAtTheLimit(t *testing.T) {
	h, most := whole(power(262143)), whole(sample.Of(4096, m))
	half := whole(power(262142))
	one := rat.Int(1)
	root, next := part(power(131071)), part(power(131072))
	run(t, []limit{
		{"h + h", rat.Add, h, h, api.Rat{}},
		{"-h + -h", rat.Add, negated(h), negated(h), api.Rat{}},
		{"h + -h", rat.Add, h, negated(h), rat.Int(0)},
		{"-h + h", rat.Add, negated(h), h, rat.Int(0)},
		{"h - h", rat.Sub, h, h, rat.Int(0)},
		{"h - -h", rat.Sub, h, negated(h), api.Rat{}},
		{"-h - h", rat.Sub, negated(h), h, api.Rat{}},
		{"half + half", rat.Add, half, half, h},
		{"h - half", rat.Sub, h, half, half},
		{"most + 1", rat.Add, most, one, api.Rat{}},
		{"1 + most", rat.Add, one, most, api.Rat{}},
		{"-most - 1", rat.Sub, negated(most), one, api.Rat{}},
		{"most + 0", rat.Add, most, rat.Int(0), most},
		{"0 + -most", rat.Add, rat.Int(0), negated(most), negated(most)},
		{"0 - most", rat.Sub, rat.Int(0), most, negated(most)},
		{"most - 1", rat.Sub, most, one, whole(sample.With(list{m - 1}, sample.Of(4095, m)...))},
		{"h - 1/2: n", rat.Sub, h, part(list{2}), api.Rat{}},
		{"1/2 - h: m", rat.Sub, part(list{2}), h, api.Rat{}},
		{"half - 1/2", rat.Sub, half, part(list{2}), api.Rat{Num: sample.With(sample.Of(4095, m), 1<<63-1), Den: list{2}}},
		{"1/h + 1/2: d", rat.Add, part(power(262143)), part(list{2}), api.Rat{}},
		{"1/h - 1/h: d, though it is 0", rat.Sub, part(power(262143)), part(power(262143)), api.Rat{}},
		{"two parts whose d is 2^262142", rat.Add, root, root, part(power(131070))},
		{"two parts whose d is 2^262143", rat.Sub, next, root, negated(next)},
		{"two parts whose d is 2^262144", rat.Add, next, next, api.Rat{}},
	})
}

// P5.4: the products as they are, though the answer may be short.
func TestMulAndDivAtTheLimit(t *testing.T) {
	h, most := whole(power(262143)), whole(sample.Of(4096, m))
	two, half := rat.Int(2), part(list{2})
	run(t, []limit{
		{"h * 2", rat.Mul, h, two, api.Rat{}},
		{"2 * -h", rat.Mul, two, negated(h), api.Rat{}},
		{"h * 1/2", rat.Mul, h, half, whole(power(262142))},
		{"h * 1/h", rat.Mul, h, part(power(262143)), rat.Int(1)},
		{"h * 2/3", rat.Mul, h, api.Rat{Num: list{2}, Den: list{3}}, api.Rat{}},
		{"h/3 * 3/h", rat.Mul, api.Rat{Num: power(262143), Den: list{3}}, api.Rat{Num: list{3}, Den: power(262143)}, api.Rat{}},
		{"1/h * 1/2", rat.Mul, part(power(262143)), half, api.Rat{}},
		{"most * -1", rat.Mul, most, rat.Int(-1), negated(most)},
		{"0 * most", rat.Mul, rat.Int(0), most, rat.Int(0)},
		{"1/most * 0", rat.Mul, part(sample.Of(4096, m)), rat.Int(0), rat.Int(0)},
		{"2^131071 * 2^131072", rat.Mul, whole(power(131071)), whole(power(131072)), h},
		{"2^131072 * 2^131072", rat.Mul, whole(power(131072)), whole(power(131072)), api.Rat{}},
		{"h by 1/2", rat.Div, h, half, api.Rat{}},
		{"h by 2", rat.Div, h, two, whole(power(262142))},
		{"h by h", rat.Div, h, h, rat.Int(1)},
		{"-h by h", rat.Div, negated(h), h, rat.Int(-1)},
		{"1/h by 2", rat.Div, part(power(262143)), two, api.Rat{}},
		{"1/h by 1/2", rat.Div, part(power(262143)), half, part(power(262142))},
		{"1 by 1/most", rat.Div, rat.Int(1), part(sample.Of(4096, m)), most},
		{"1/h by 1/h", rat.Div, part(power(262143)), part(power(262143)), rat.Int(1)},
		{"3/h by 3/h", rat.Div, api.Rat{Num: list{3}, Den: power(262143)}, api.Rat{Num: list{3}, Den: power(262143)}, api.Rat{}},
		{"0 by 1/most", rat.Div, rat.Int(0), part(sample.Of(4096, m)), rat.Int(0)},
	})
	got, e := rat.Div(h, rat.Int(0))
	refused(t, "Div(h, 0)", got, e, api.ErrZeroDen)
}

// P5.5: signs that differ tell, however long the products are.
func TestCmpAtTheLimit(t *testing.T) {
	h, third, tiny := whole(power(262143)), part(list{3}), part(power(262143))
	for _, c := range []struct {
		name string
		a, b api.Rat
		want int
		code api.Errno
	}{
		{"h, 1/3", h, third, 0, api.ErrHuge},
		{"1/3, h", third, h, 0, api.ErrHuge},
		{"-h, -1/3", negated(h), negated(third), 0, api.ErrHuge},
		{"-1/3, -h", negated(third), negated(h), 0, api.ErrHuge},
		{"1/h, 3", tiny, rat.Int(3), 0, api.ErrHuge},
		{"h, 1/h", h, tiny, 0, api.ErrHuge},
		{"h, -h", h, negated(h), 1, api.OK},
		{"-1/3, h", negated(third), h, -1, api.OK},
		{"h, -1/3", h, negated(third), 1, api.OK},
		{"0, h", rat.Int(0), h, -1, api.OK},
		{"0, -1/h", rat.Int(0), negated(tiny), 1, api.OK},
		{"1/h, 1/3", tiny, third, -1, api.OK},
		{"-1/h, -1/3", negated(tiny), negated(third), 1, api.OK},
		{"h, 1", h, rat.Int(1), 1, api.OK},
		{"h, h", h, h, 0, api.OK},
		{"-1/h, -1/h", negated(tiny), negated(tiny), 0, api.OK},
	} {
		if got, e := rat.Cmp(c.a, c.b); got != c.want || e != c.code {
			t.Errorf("Cmp(%s) = %d, %d, want %d, %d", c.name, got, e, c.want, c.code)
		}
	}
}
