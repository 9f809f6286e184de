package near_test

import (
	"math"
	"math/big"
	"slices"
	"testing"

	"plumb/api"
	"plumb/f64"
	"plumb/near"
	"plumb/sample"
)

// P7.7: a pattern's number is rounded back to it in every mode, -0's to 0.
func TestValueIsRoundedBack(t *testing.T) {
	for _, b := range finite() {
		r, _ := near.Value(b)
		want := b
		if b == minus {
			want = 0
		}
		for _, mode := range modes {
			if got, e := near.Rat(r, mode); got != want || e != api.OK {
				t.Errorf("Rat(Value(%x), %d) = %x, %d", b, mode, got, e)
			}
		}
	}
}

// some are numbers of both signs, the lesser first.
func some() []*big.Rat {
	out := []*big.Rat{new(big.Rat)}
	for _, q := range nearby() {
		out = append(out, q, new(big.Rat).Neg(q))
	}
	rule := sample.Rule(75)
	for range 500 {
		q := new(big.Rat).SetFrac(sample.Number(rule.List(1+rule.Below(18))), plus(sample.Number(rule.List(rule.Below(18))), 1))
		out = append(out, q, new(big.Rat).Neg(q))
	}
	slices.SortFunc(out, (*big.Rat).Cmp)
	return out
}

// rank gives the rank of a number rounded in a mode; an overflow is beyond all.
func rank(t *testing.T, q *big.Rat, mode int) int64 {
	t.Helper()
	b, e := near.Rat(of(q), mode)
	if e == api.ErrOverflow {
		return math.MaxInt64 * int64(q.Sign())
	}
	n, f := f64.Rank(b)
	if e != api.OK || f != api.OK {
		t.Fatalf("Rat(%v, %d) = %x, %d", q, mode, b, e)
	}
	return n
}

// P7.7: of two numbers the greater is never rounded below the other, in any mode.
func TestMonotone(t *testing.T) {
	for _, mode := range modes {
		last := int64(math.MinInt64)
		for _, q := range some() {
			n := rank(t, q, mode)
			if n < last {
				t.Errorf("mode %d: %v is rounded below a lesser number", mode, q)
			}
			last = n
		}
	}
}

// P7.7: Down's answer isn't above, Up's not below; they are neighbours or the same; Even's is one of the two.
func TestDownAndUp(t *testing.T) {
	const last = int64(greatest)
	for _, q := range some() {
		down, up, even := rank(t, q, api.Down), rank(t, q, api.Up), rank(t, q, api.Even)
		if even != down && even != up {
			t.Errorf("of %v: Even's rank %d, Down's %d, Up's %d", q, even, down, up)
		}
		if down < -last || up > last {
			continue
		}
		low, _ := f64.At(down)
		high, _ := f64.At(up)
		if value(low).Cmp(q) > 0 || value(high).Cmp(q) < 0 || up-down > 1 {
			t.Errorf("of %v: Down's rank %d, Up's %d", q, down, up)
		}
		if up != down && (value(low).Cmp(q) == 0 || value(high).Cmp(q) == 0) {
			t.Errorf("%v is a pattern's number, but Down's rank is %d, Up's %d", q, down, up)
		}
	}
}

// P7.7: a number strictly between the middles around a pattern is rounded to it by Even.
func TestBetweenMiddles(t *testing.T) {
	hair := twoBy(big.NewInt(1), -1400)
	for _, b := range finite() {
		if b == minus || b&^minus == greatest {
			continue
		}
		prev, _ := f64.Prev(b)
		low, high := new(big.Rat).Add(middle(prev), hair), new(big.Rat).Sub(middle(b), hair)
		for _, q := range []*big.Rat{low, high} {
			want := b
			if b == 0 && q.Sign() < 0 {
				want = minus
			}
			if got, e := near.Rat(of(q), api.Even); got != want || e != api.OK {
				t.Errorf("beside a middle of %x: %x, %d", b, got, e)
			}
		}
	}
}

// product gives both multiplied.
func product(x, y list) list {
	return sample.Words(new(big.Int).Mul(sample.Number(x), sample.Number(y)))
}

// P7.7: Quotient hangs on the ratio alone.
func TestRatioAlone(t *testing.T) {
	rule := sample.Rule(76)
	factors := []list{{2}, {3}, {10}, {0, 1}, {math.MaxUint64, math.MaxUint64}, rule.List(9), sample.With(sample.Of(5000, 5), 9)}
	for _, factor := range factors {
		for range 30 {
			num, den := rule.List(1+rule.Below(5)), sample.With(rule.List(rule.Below(5)), 1)
			num2, den2 := product(factor, num), product(factor, den)
			for _, mode := range modes {
				a, e := near.Quotient(true, num, den, mode)
				if b, f := near.Quotient(true, num2, den2, mode); a != b || e != f {
					t.Errorf("%v by %v, mode %d: %x, %d; with a factor %x, %d", num, den, mode, a, e, b, f)
				}
			}
		}
	}
}

// P7.7: Scaled without sticky is Quotient.
func TestScaledIsQuotient(t *testing.T) {
	rule := sample.Rule(77)
	for range 500 {
		mant, exp, neg := rule.List(rule.Below(6)), rule.Below(2600)-1500, rule.Below(2) == 0
		num, den := sample.Number(mant), big.NewInt(1)
		num.Lsh(num, uint(max(exp, 0)))
		den.Lsh(den, uint(max(-exp, 0)))
		for _, mode := range modes {
			a, e := near.Scaled(neg, mant, exp, false, mode)
			if b, f := near.Quotient(neg, sample.Words(num), sample.Words(den), mode); a != b || e != f {
				t.Errorf("Scaled(%v, %v, %d, %d) = %x, %d; Quotient %x, %d", neg, mant, exp, mode, a, e, b, f)
			}
		}
	}
}

// P7.8, P0.2: what is handed in stays as it is, its spare room too.
func TestHandedIn(t *testing.T) {
	for _, lists := range [][2]list{{{7, 0}, {70, 0, 0}}, {{1}, {3}}, {{1 << 60, 5, 9}, {77}}, {{5}, {3, 0, 0, 1}}, {sample.With(sample.Of(40, 3), 8), {9, 1}}, {nil, {1}}, {{9}, {4}}, {{12}, {1}}} {
		wrong := sample.Memory(func(in [][]uint64) [][]uint64 {
			r := api.Rat{Neg: len(in[0]) > 0, Num: in[0], Den: in[1]}
			var out [][]uint64
			for _, mode := range modes {
				a, _ := near.Quotient(true, in[0], in[1], mode)
				b, _ := near.Scaled(false, in[0], -50, true, mode)
				c, _ := near.Scaled(false, in[1], -400, true, mode)
				d, _ := near.Rat(r, mode)
				out = append(out, list{a, b, c, d})
			}
			exact, _ := near.Exact(r)
			return append(out, list{exact})
		}, lists[0], lists[1])
		if wrong != "" {
			t.Errorf("of %v: %s", lists, wrong)
		}
	}
}

// P7.8: Rats that are answered are new memory, each list its own.
func TestAnswersAreNew(t *testing.T) {
	for _, b := range finite() {
		wrong := sample.Memory(func([][]uint64) [][]uint64 {
			v, _ := near.Value(b)
			m, _ := near.Mid(b)
			w, _ := near.Value(b)
			return [][]uint64{v.Num, v.Den, m.Num, m.Den, w.Num, w.Den}
		})
		if wrong != "" {
			t.Errorf("of %x: %s", b, wrong)
		}
	}
}

// P0.1: the same arguments are answered alike, whatever was asked between.
func TestDetermined(t *testing.T) {
	ask := func() []uint64 {
		var out []uint64
		for i, x := range sample.Lists() {
			for _, mode := range append(modes, wrongModes...) {
				a, e := near.Quotient(i%2 == 0, x, list{3, uint64(i)}, mode)
				b, f := near.Scaled(i%2 == 1, x, i*37-1100, i%3 == 0, mode)
				out = append(out, a, uint64(e), b, uint64(f))
			}
		}
		return out
	}
	if first := ask(); !slices.Equal(first, ask()) {
		t.Error("the second time the answers are others")
	}
}
