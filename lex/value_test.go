package lex_test

import (
	"math/big"
	"slices"
	"strings"
	"testing"

	"plumb/api"
	"plumb/lex"
	"plumb/rat"
	"plumb/sample"
)

// P9.5: the chapter's example 9.
func TestValueExamples(t *testing.T) {
	for _, c := range []struct {
		n    api.Numeral
		want string
	}{
		{d('-', "50", -2), "-1/2"}, {x('+', "18", -3), "3"}, {r('+', "10", "4"), "5/2"}, {r('-', "", "5"), "0"}, {d('+', "", 1<<30), "0"},
		{d('-', "", 0), "0"}, {d('-', "", -1<<30), "0"}, {x('-', "", 1<<30), "0"}, {x('+', "", -1<<30), "0"}, {d('+', "12", 3), "12000"},
		{d('-', "7", 0), "-7"}, {x('-', "ff", 4), "-4080"}, {x('+', "a", 0), "10"}, {x('+', "10", -6), "1/4"}, {r('-', "6", "3"), "-2"},
		{r('+', "18446744073709551616", "2"), "9223372036854775808"}, {d('+', "1", -20), "1/100000000000000000000"},
	} {
		v, e := lex.Value(c.n)
		if s, f := rat.Text(v); s != c.want || e != api.OK || f != api.OK {
			t.Errorf("Value(%v) = %v, %d, want %s", c.n, v, e, c.want)
		}
	}
}

// P9.5: the errors, in their order; with an error there is no Rat.
func TestValueRefuses(t *testing.T) {
	type refusal struct {
		n    api.Numeral
		want api.Errno
	}
	f := strings.Repeat("f", 65536)
	list := []refusal{
		{r('+', "1", ""), api.ErrZeroDen}, {r('-', "", ""), api.ErrZeroDen}, {r('+', strings.Repeat("9", 65536), ""), api.ErrZeroDen},
		{d('+', "1", 1<<30), api.ErrHuge}, {d('+', "1", -1<<30), api.ErrHuge}, {x('-', "1", 1<<30), api.ErrHuge}, {x('+', "1", -1<<30), api.ErrHuge},
		{d('+', "1", 78914), api.ErrHuge}, {d('+', "1", -78914), api.ErrHuge}, {x('+', "1", 262144), api.ErrHuge}, {x('+', "1", -262144), api.ErrHuge},
		{x('+', "2", 262143), api.ErrHuge}, {x('+', f, 1), api.ErrHuge}, {d('+', "100", 78912), api.ErrHuge},
		{d('+', strings.Repeat("9", 40000), 40000), api.ErrHuge}, {x('+', "1"+f[:60000], 22144), api.ErrHuge},
	}
	for _, n := range wrong() {
		list = append(list, refusal{n, api.ErrNumeral})
	}
	for _, c := range list {
		if v, e := lex.Value(c.n); v.Neg || v.Num != nil || v.Den != nil || e != c.want {
			t.Errorf("Value(%.80v) = %d and %d words, %d, want %d", c.n, len(v.Num), len(v.Den), e, c.want)
		}
	}
}

// exact gives the number of a right Numeral, if its exponent is not far from 0.
func exact(n api.Numeral) *big.Rat {
	number := func(s string, base int) *big.Int {
		out, _ := new(big.Int).SetString("0"+s, base)
		return out
	}
	base, power := 10, big.NewInt(10)
	if n.Kind == api.Hexa {
		base, power = 16, big.NewInt(2)
	}
	out := new(big.Rat).SetInt(number(n.Num, base))
	power.Exp(power, big.NewInt(int64(max(n.Exp, -n.Exp))), nil)
	switch {
	case n.Kind == api.Ratio:
		out.SetFrac(out.Num(), number(n.Den, 10))
	case n.Exp < 0:
		out.SetFrac(out.Num(), power)
	default:
		out.SetInt(power.Mul(power, out.Num()))
	}
	if n.Neg {
		out.Neg(out)
	}
	return out
}

// valued holds Value to the number by another road.
func valued(t *testing.T, n api.Numeral) {
	t.Helper()
	want := exact(n)
	v, e := lex.Value(n)
	if e != api.OK || v.Neg != (want.Sign() < 0) || !sample.Is(v.Num, new(big.Int).Abs(want.Num())) || !sample.Is(v.Den, want.Denom()) {
		t.Errorf("Value(%.80v): %d and %d words, %d", n, len(v.Num), len(v.Den), e)
	}
}

// some gives digits of a set, the first not 0, from a rule.
func some(rule *sample.Rule, set string, count int) string {
	out := make([]byte, count)
	for i := range out {
		out[i] = set[rule.Below(len(set))]
	}
	return strings.TrimLeft(string(out), "0")
}

// numerals are right ones of all kinds, from a rule.
func numerals(count int) []api.Numeral {
	const decimal, hexa = "00123456789", "000123456789abcdef"
	rule := sample.Rule(99)
	var out []api.Numeral
	for range count {
		sign := "+-"[rule.Below(2)]
		size, exp := rule.Below(40), rule.Below(200)-100
		if rule.Below(4) == 0 {
			exp = 0
		}
		out = append(out, d(sign, some(&rule, decimal, size), exp), x(sign, some(&rule, hexa, size), exp),
			r(sign, some(&rule, decimal, size), some(&rule, decimal, 1+rule.Below(30))))
	}
	return out
}

// P9.5
func TestValueIsTheNumber(t *testing.T) {
	for _, n := range numerals(2000) {
		if n.Kind != api.Ratio || n.Den != "" {
			valued(t, n)
		}
	}
}

// P9.5: numbers of about MaxLimbs words.
func TestValueAtTheLimit(t *testing.T) {
	nines, f := strings.Repeat("9", 65536), strings.Repeat("f", 65536)
	for _, n := range []api.Numeral{
		x('+', "1", 262143), x('-', "1", -262143), x('+', f, 0), x('-', f[:60000], 22144), x('+', f[:1], 262140), x('+', "7", -262143),
		d('+', "1", 78913), d('+', "1", -78913), d('-', "10", 78912), d('+', nines, -78913), d('+', nines, 13376), r('-', nines, nines[1:]),
	} {
		valued(t, n)
	}
	// 2^262144 lies between 16 and 17 times ten to the 78912.
	for _, c := range []struct {
		num  string
		want api.Errno
	}{{"16", api.OK}, {"17", api.ErrHuge}} {
		if _, e := lex.Value(d('+', c.num, 78912)); e != c.want {
			t.Errorf("%s times ten to the 78912: %d, want %d", c.num, e, c.want)
		}
	}
}

// P9.5, P9.8: what is answered is new memory each time, Num and Den of one answer too.
func TestValueMemory(t *testing.T) {
	calls := func([][]uint64) [][]uint64 {
		var out [][]uint64
		for _, n := range []api.Numeral{d('+', "", 0), d('+', "1", 0), d('-', "15", -1), x('+', "1", 100), x('+', "3", -70), r('+', "1", "1"), r('-', "", "7")} {
			v, _ := lex.Value(n)
			out = append(out, v.Num, v.Den)
		}
		return slices.Clone(out)
	}
	if told := sample.Memory(calls); told != "" {
		t.Error(told)
	}
}
