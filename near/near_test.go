package near_test

import (
	"math"
	"math/big"
	"slices"
	"testing"

	"plumb/api"
	"plumb/near"
	"plumb/sample"
)

const (
	minus    = 0x8000000000000000 // the sign bit, and -0
	infinite = 0x7ff0000000000000
	greatest = 0x7fefffffffffffff
	one      = 0x3ff0000000000000
)

type list = []uint64

// modes are the five.
var modes = []int{api.Even, api.Inward, api.Outward, api.Up, api.Down}

// wrongModes are some that are none.
var wrongModes = []int{-1, 5, 6, 256, math.MaxInt, math.MinInt}

// number gives a whole number by its text.
func number(s string) list {
	x, ok := new(big.Int).SetString(s, 0)
	if !ok {
		panic("no number: " + s)
	}
	return sample.Words(x)
}

// two gives two to the n.
func two(n int) *big.Int {
	return new(big.Int).Lsh(big.NewInt(1), uint(n))
}

// plus gives a number and a little.
func plus(x *big.Int, more int64) *big.Int {
	return new(big.Int).Add(x, big.NewInt(more))
}

// twoBy gives mant times two to the exp.
func twoBy(mant *big.Int, exp int) *big.Rat {
	if exp >= 0 {
		return new(big.Rat).SetInt(new(big.Int).Lsh(mant, uint(exp)))
	}
	return new(big.Rat).SetFrac(mant, two(-exp))
}

// of gives a number as a Rat.
func of(q *big.Rat) api.Rat {
	return api.Rat{Neg: q.Sign() < 0, Num: sample.Words(new(big.Int).Abs(q.Num())), Den: sample.Words(q.Denom())}
}

// same tells whether two are the same, field by field (an empty list as nil).
func same(a, b api.Rat) bool {
	return a.Neg == b.Neg && slices.Equal(a.Num, b.Num) && slices.Equal(a.Den, b.Den)
}

// value gives the number of a finite pattern.
func value(b uint64) *big.Rat {
	return new(big.Rat).SetFloat64(math.Float64frombits(b))
}

// around gives the greatest float that isn't above q, which isn't below 0, and the least that isn't below; where there
// is none it is infinite.
func around(q *big.Rat) (float64, float64) {
	low, _ := q.Float64()
	if math.IsInf(low, 0) {
		low = math.MaxFloat64
	}
	if new(big.Rat).SetFloat64(low).Cmp(q) > 0 {
		low = math.Nextafter(low, 0)
	}
	if new(big.Rat).SetFloat64(low).Cmp(q) == 0 {
		return low, low
	}
	return low, math.Nextafter(low, math.Inf(1))
}

// rounded is what must be answered for a number of size q, by floats.
func rounded(neg bool, q *big.Rat, mode int) (uint64, api.Errno) {
	low, high := around(q)
	f, _ := q.Float64()
	switch {
	case mode == api.Inward, mode == api.Up && neg, mode == api.Down && !neg:
		f = low
	case mode != api.Even:
		f = high
	}
	if math.IsInf(f, 0) {
		return 0, api.ErrOverflow
	}
	if neg {
		f = math.Copysign(f, -1)
	}
	return math.Float64bits(f), api.OK
}

// five are the answers in all modes; an answer of no pattern stands for an overflow.
type five [5]uint64

const over = infinite

// hold holds a call's answers in all modes to those.
func (want five) hold(t *testing.T, what string, call func(mode int) (uint64, api.Errno)) {
	t.Helper()
	for _, mode := range modes {
		b, e := call(mode)
		if want[mode] == over && (b != 0 || e != api.ErrOverflow) {
			t.Errorf("%s, mode %d: %x, %d, want an overflow", what, mode, b, e)
		}
		if want[mode] != over && (b != want[mode] || e != api.OK) {
			t.Errorf("%s, mode %d: %x, %d, want %x", what, mode, b, e, want[mode])
		}
	}
}

// P7.1: the chapter's examples 1 to 5 and their neighbours, in all modes.
func TestQuotientExamples(t *testing.T) {
	const tenth, big53 = 0x3fb999999999999a, 0x4340000000000000
	middle := new(big.Int).Sub(two(1024), two(970))
	for _, c := range []struct {
		what     string
		neg      bool
		num, den list
		want     five
	}{
		{"1/10", false, list{1}, list{10}, five{tenth, tenth - 1, tenth, tenth, tenth - 1}},
		{"-1/10", true, list{1}, list{10}, five{tenth | minus, tenth - 1 | minus, tenth | minus, tenth - 1 | minus, tenth | minus}},
		{"7/70", false, list{7}, list{70}, five{tenth, tenth - 1, tenth, tenth, tenth - 1}},
		{"7/70 with words 0", false, list{7, 0, 0}, list{70, 0}, five{tenth, tenth - 1, tenth, tenth, tenth - 1}},
		{"1/2", false, list{1}, list{2}, five{one - 1<<52, one - 1<<52, one - 1<<52, one - 1<<52, one - 1<<52}},
		{"-0/5", true, nil, list{5}, five{minus, minus, minus, minus, minus}},
		{"0/5", false, nil, list{5}, five{}},
		{"0/5 with words 0", false, list{0, 0}, list{5, 0}, five{}},
		{"2^53 + 1", false, sample.Words(plus(two(53), 1)), list{1}, five{big53, big53, big53 + 1, big53 + 1, big53}},
		{"2^53 + 3", false, sample.Words(plus(two(53), 3)), list{1}, five{big53 + 2, big53 + 1, big53 + 2, big53 + 2, big53 + 1}},
		{"2^1024", false, sample.Words(two(1024)), list{1}, five{over, greatest, over, over, greatest}},
		{"-2^1024", true, sample.Words(two(1024)), list{1}, five{over, greatest | minus, over, greatest | minus, over}},
		{"the last middle", false, sample.Words(middle), list{1}, five{over, greatest, over, over, greatest}},
		{"one less", false, sample.Words(plus(middle, -1)), list{1}, five{greatest, greatest, over, over, greatest}},
		{"with a minus", true, sample.Words(plus(middle, -1)), list{1}, five{greatest | minus, greatest | minus, over, greatest | minus, over}},
		{"1/2^1075", false, list{1}, sample.Words(two(1075)), five{0, 0, 1, 1, 0}},
		{"3/2^1076", false, list{3}, sample.Words(two(1076)), five{1, 0, 1, 1, 0}},
		{"-1/2^1075", true, list{1}, sample.Words(two(1075)), five{minus, minus, minus | 1, minus, minus | 1}},
		{"1/2^300000", false, list{1}, sample.Words(two(300000)), five{0, 0, 1, 1, 0}},
		{"2^300000", false, sample.Words(two(300000)), list{1}, five{over, greatest, over, over, greatest}},
		{"2^300000/2^300000", false, sample.Words(two(300000)), sample.Words(two(300000)), five{one, one, one, one, one}},
	} {
		c.want.hold(t, c.what, func(mode int) (uint64, api.Errno) { return near.Quotient(c.neg, c.num, c.den, mode) })
	}
}

// P7.1: the errors, the wrong mode first.
func TestQuotientErrors(t *testing.T) {
	for _, den := range []list{nil, {}, {0}, {0, 0, 0}} {
		for _, num := range []list{nil, {1}, {0}, sample.Of(5000, 7)} {
			for _, mode := range modes {
				if b, e := near.Quotient(true, num, den, mode); b != 0 || e != api.ErrZeroDen {
					t.Errorf("Quotient(%v, %v, %d) = %x, %d", num, den, mode, b, e)
				}
			}
			for _, mode := range wrongModes {
				if b, e := near.Quotient(true, num, den, mode); b != 0 || e != api.ErrMode {
					t.Errorf("Quotient(%v, %v, %d) = %x, %d", num, den, mode, b, e)
				}
			}
		}
	}
	for _, mode := range wrongModes {
		if b, e := near.Quotient(false, list{1}, list{2}, mode); b != 0 || e != api.ErrMode {
			t.Errorf("mode %d: %x, %d", mode, b, e)
		}
	}
}

// holdQuotient holds Quotient of both signs, in all modes, to what floats say.
func holdQuotient(t *testing.T, num, den list) {
	t.Helper()
	q := new(big.Rat).SetFrac(sample.Number(num), sample.Number(den))
	for _, neg := range []bool{false, true} {
		for _, mode := range modes {
			want, f := rounded(neg, q, mode)
			if b, e := near.Quotient(neg, num, den, mode); b != want || e != f {
				t.Errorf("Quotient(%v, %v, %v, %d) = %x, %d, want %x, %d", neg, num, den, mode, b, e, want, f)
			}
		}
	}
}

// P7.1: all telling lists by one another.
func TestQuotientOfLists(t *testing.T) {
	for _, num := range sample.Lists() {
		for _, den := range sample.Lists() {
			if sample.Number(den).Sign() != 0 {
				holdQuotient(t, num, den)
			}
		}
	}
}

// P7.1: lists of a rule, of lengths that lead below the least and beyond the greatest.
func TestQuotientOfAnyLists(t *testing.T) {
	rule := sample.Rule(71)
	for range 1500 {
		num, den := rule.List(rule.Below(20)), rule.List(1+rule.Below(20))
		if sample.Number(den).Sign() != 0 {
			holdQuotient(t, num, den)
		}
	}
}

// nearby are places, the middles between them and what lies a hair to either side, above 0, in all reaches.
func nearby() []*big.Rat {
	var out []*big.Rat
	hair := twoBy(big.NewInt(1), -1300)
	add := func(mant *big.Int, exp int) {
		q := twoBy(mant, exp)
		out = append(out, q, new(big.Rat).Add(q, hair), new(big.Rat).Sub(q, hair))
	}
	mants := []*big.Int{two(53), plus(two(53), 1), plus(two(53), 2), plus(two(53), 3), plus(two(54), -1), plus(two(54), -2), plus(two(54), -3)}
	for _, exp := range []int{-1080, -1076, -1075, -1074, -1073, -60, -53, -1, 0, 1, 900, 968, 969, 970, 971} {
		for _, mant := range mants {
			add(mant, exp)
		}
	}
	for mant := int64(1); mant < 10; mant++ {
		for _, exp := range []int{-1077, -1076, -1075, -1074} {
			add(big.NewInt(mant), exp)
		}
	}
	for _, less := range []int64{1, 2, 3} {
		add(plus(two(53), -less), -1075)
		add(plus(two(52), -less), -1074)
	}
	return out
}

// P7.1: at places, at middles and a hair beside them.
func TestQuotientNearby(t *testing.T) {
	for _, q := range nearby() {
		holdQuotient(t, sample.Words(q.Num()), sample.Words(q.Denom()))
	}
}

// P7.1: numbers of any length: far more words than may be answered, and what tells stands at their low end.
func TestQuotientOfLongNumbers(t *testing.T) {
	long := two(64 * 6000)
	long.Sub(long, big.NewInt(12345))
	tie := new(big.Int).Mul(long, plus(two(53), 1))
	const big53 = 0x4340000000000000
	for _, c := range []struct {
		what     string
		num, den *big.Int
		want     five
	}{
		{"just a tie", tie, long, five{big53, big53, big53 + 1, big53 + 1, big53}},
		{"above the tie", plus(tie, 1), long, five{big53 + 1, big53, big53 + 1, big53 + 1, big53}},
		{"below the tie", plus(tie, -1), long, five{big53, big53, big53 + 1, big53 + 1, big53}},
		{"just 1", long, long, five{one, one, one, one, one}},
		{"above 1", plus(long, 1), long, five{one, one, one + 1, one + 1, one}},
		{"below 1", plus(long, -1), long, five{one, one - 1, one, one, one - 1}},
		{"tiny", big.NewInt(1), long, five{0, 0, 1, 1, 0}},
		{"great", long, big.NewInt(3), five{over, greatest, over, over, greatest}},
	} {
		num, den := sample.Words(c.num), sample.Words(c.den)
		c.want.hold(t, c.what, func(mode int) (uint64, api.Errno) { return near.Quotient(false, num, den, mode) })
	}
}

// P7.3: what is no Rat, and the chapter's example 10.
func TestRatErrors(t *testing.T) {
	for _, r := range wrongs() {
		for _, mode := range modes {
			if b, e := near.Rat(r, mode); b != 0 || e != api.ErrRat {
				t.Errorf("Rat(%v, %d) = %x, %d", r, mode, b, e)
			}
		}
		for _, mode := range wrongModes {
			if b, e := near.Rat(r, mode); b != 0 || e != api.ErrMode {
				t.Errorf("Rat(%v, %d) = %x, %d", r, mode, b, e)
			}
		}
	}
	for _, mode := range wrongModes {
		if b, e := near.Rat(api.Rat{Num: list{1}, Den: list{3}}, mode); b != 0 || e != api.ErrMode {
			t.Errorf("Rat(1/3, %d) = %x, %d", mode, b, e)
		}
	}
	if b, e := near.Rat(api.Rat{Neg: true, Num: list{1}, Den: list{3}}, api.Even); b != 0xbfd5555555555555 || e != api.OK {
		t.Errorf("Rat(-1/3) = %x, %d", b, e)
	}
}

// wrongs are such as are no Rats.
func wrongs() []api.Rat {
	return []api.Rat{
		{},
		{Num: list{1}},
		{Num: list{1}, Den: list{0}},
		{Num: list{2}, Den: list{4}},
		{Neg: true, Den: list{1}},
		{Den: list{2}},
		{Num: list{1, 0}, Den: list{2}},
		{Num: list{1}, Den: list{2, 0}},
		{Num: list{0}, Den: list{1}},
		{Num: list{0, 1}, Den: list{2}},
		{Num: sample.With(sample.Of(4096, 0), 1), Den: list{1}},
	}
}

// P7.3: a Rat is rounded as its number; a zero has no minus.
func TestRatOfNumbers(t *testing.T) {
	all := nearby()
	for _, num := range sample.Lists() {
		all = append(all, new(big.Rat).SetFrac(sample.Number(num), plus(two(70), 1)))
	}
	for _, q := range append(all, new(big.Rat)) {
		for _, r := range []*big.Rat{q, new(big.Rat).Neg(q)} {
			for _, mode := range modes {
				want, f := rounded(r.Sign() < 0, q, mode)
				if b, e := near.Rat(of(r), mode); b != want || e != f {
					t.Errorf("Rat(%v, %d) = %x, %d, want %x, %d", r, mode, b, e, want, f)
				}
			}
		}
	}
}
