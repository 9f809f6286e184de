package quot_test

import (
	"math/big"
	"slices"
	"testing"

	"plumb/api"
	"plumb/nat"
	"plumb/quot"
	"plumb/sample"
)

// P3.7: numbers longer than any that nat answers.
func TestNoLimit(t *testing.T) {
	rule := sample.Rule(37)
	x, y := rule.List(9001), rule.List(4500)
	x[9000], y[4499] = m, 1
	divides(t, x, y)
	divides(t, x, y[:4099])
	divides(t, y, x)
	divides(t, x, x)
	divides(t, x, y[4497:])
	divides(t, sample.With(sample.Of(9000, 0), 1), sample.Of(4500, m))
	divides(t, sample.Of(9000, m), sample.With(sample.Of(4499, 0), top))
	q, r, e := quot.Small(sample.Of(5000, m), m)
	if e != api.OK || r != 0 || !slices.Equal(q, sample.Of(5000, 1)) {
		t.Errorf("Small(5000 words, m): %d words, %d, %d", len(q), r, e)
	}
	common(t, x, nil)
	common(t, nil, x)
	common(t, x, y[4480:])
	common(t, sample.With(sample.Of(5000, 0), 6), sample.With(sample.Of(4500, 0), 9))
	long := sample.Number(x)
	common(t, sample.Words(new(big.Int).Mul(long, big.NewInt(91))), sample.Words(new(big.Int).Mul(long, big.NewInt(35))))
	rooted(t, long)
	rooted(t, new(big.Int).Mul(sample.Number(y), sample.Number(y)))
}

// answers are all lists that calls answer for these arguments.
func answers(x, y list) []list {
	q, r, _ := quot.DivMod(x, y)
	s, _, _ := quot.Small(x, 10)
	same, _, _ := quot.Small(x, 1)
	one, _ := quot.Pow(x, 1)
	none, _ := quot.Pow(x, 0)
	three, _ := quot.Pow(x, 3)
	root, _ := quot.Root(x)
	a, b := quot.Lowest(x, y)
	return []list{q, r, s, same, quot.Gcd(x, y), quot.Gcd(x, nil), quot.Gcd(nil, y), one, none, three, root, a, b}
}

// P3.7, P0.1, P0.2: what is handed in stays as it is with its spare room, and what is done to an answer is seen nowhere else.
func TestMemory(t *testing.T) {
	calls := func(in []list) []list { return answers(in[0], in[1]) }
	twice := func(in []list) []list { return answers(in[0], in[0]) }
	for _, x := range sample.Lists() {
		for _, y := range sample.Lists() {
			if fault := sample.Memory(calls, x, y); fault != "" {
				t.Fatalf("of %x and %x: %s", x, y, fault)
			}
		}
		if fault := sample.Memory(twice, x); fault != "" {
			t.Fatalf("of %x twice: %s", x, fault)
		}
	}
}

// rest gives the rest of x by y.
func rest(x, y list) list {
	_, r, _ := quot.DivMod(x, y)
	return r
}

// P3.8: Gcd divides both, either way round, and goes on by rests; Lowest's answers have no common divisor, and crosswise
// products are the same.
func TestGcdLaws(t *testing.T) {
	must := sample.Must(t)
	for _, x := range sample.Lists() {
		for _, y := range sample.Lists() {
			g := quot.Gcd(x, y)
			if !slices.Equal(g, quot.Gcd(y, x)) {
				t.Errorf("Gcd(%x, %x) isn't Gcd the other way round", x, y)
			}
			a, b := quot.Lowest(x, y)
			if !slices.Equal(must(nat.Mul(a, y)), must(nat.Mul(x, b))) {
				t.Errorf("Lowest(%x, %x) = %x, %x: crosswise products differ", x, y, a, b)
			}
			if len(g) == 0 {
				continue
			}
			if len(rest(x, g)) != 0 || len(rest(y, g)) != 0 {
				t.Errorf("Gcd(%x, %x) = %x doesn't divide both", x, y, g)
			}
			if !slices.Equal(quot.Gcd(a, b), list{1}) {
				t.Errorf("Lowest(%x, %x) = %x, %x: not the lowest", x, y, a, b)
			}
			if r, _, e := quot.DivMod(x, y); e == api.OK && !slices.Equal(g, quot.Gcd(y, rest(x, y))) {
				t.Errorf("Gcd(%x, %x) isn't Gcd of the rest by %x", x, y, r)
			}
		}
	}
}

// P3.8: a common divisor of both divides Gcd.
func TestGcdIsDividedByAll(t *testing.T) {
	must := sample.Must(t)
	for _, d := range sample.Lists() {
		if nat.Bits(d) == 0 {
			continue
		}
		for _, x := range sample.Lists() {
			y := nat.From(30030)
			if g := quot.Gcd(must(nat.Mul(x, d)), must(nat.Mul(y, d))); len(rest(g, d)) != 0 {
				t.Errorf("%x divides %x and %x times it, but not their Gcd %x", d, x, y, g)
			}
		}
	}
}

// P3.8
func TestRootLaws(t *testing.T) {
	must := sample.Must(t)
	for _, x := range sample.Lists() {
		s, just := quot.Root(x)
		next := must(nat.Add(s, nat.From(1)))
		order := nat.Cmp(must(nat.Mul(s, s)), x)
		if order > 0 || nat.Cmp(must(nat.Mul(next, next)), x) <= 0 || just != (order == 0) {
			t.Errorf("Root(%x) = %x, %v", x, s, just)
		}
	}
}

// P3.8
func TestPowLaws(t *testing.T) {
	must := sample.Must(t)
	for _, x := range sample.Lists() {
		for a := range 6 {
			for b := range 6 {
				got := must(nat.Mul(must(quot.Pow(x, a)), must(quot.Pow(x, b))))
				if want := must(quot.Pow(x, a+b)); !slices.Equal(got, want) {
					t.Errorf("Pow(%x, %d) * Pow(%x, %d) = %x, but Pow of both %x", x, a, x, b, got, want)
				}
			}
		}
	}
}
