package atof_test

import (
	"math"
	"math/big"
	"slices"
	"strconv"
	"strings"
	"sync"
	"testing"

	"plumb/api"
	"plumb/atof"
	"plumb/f64"
	"plumb/lex"
	"plumb/sample"
)

// sizes are finite patterns without a sign: the edges of all reaches, and any from a fixed rule.
func sizes() []uint64 {
	out := []uint64{
		0, 1, 2, 3, 1 << 51, 0x000ffffffffffffe, 0x000fffffffffffff, 0x0010000000000000, 0x0010000000000001,
		0x001fffffffffffff, 0x0020000000000000, one - 1, one, one + 1, tenth, 0x4330000000000000, 0x433fffffffffffff,
		0x4340000000000000, 0x4340000000000001, 0x43efffffffffffff, 0x7fe0000000000000, greatest - 1,
	}
	rule := sample.Rule(114)
	for range 60 {
		out = append(out, rule.Next()>>1%greatest, rule.Next()>>12, (0x3fe0+rule.Next()%64)<<48|rule.Next()>>16)
	}
	return out
}

// value is the exact number of a finite pattern, by floats.
func value(b uint64) *big.Rat {
	return new(big.Rat).SetFloat64(math.Float64frombits(b))
}

// middle is the number between a pattern's and the next one's.
func middle(b uint64) *big.Rat {
	sum := new(big.Rat).Add(value(b), value(b+1))
	return sum.Mul(sum, big.NewRat(1, 2))
}

// written are texts of a number whose denominator is a power of two: decimal, hexadecimal, rational.
func written(q *big.Rat) []string {
	places := q.Denom().BitLen() - 1
	digits := q.FloatString(places)
	whole := new(big.Int).Mul(q.Num(), power(5, places))
	return []string{
		digits,
		whole.String() + "e-" + strconv.Itoa(places),
		"0x" + q.Num().Text(16) + "p-" + strconv.Itoa(places),
		"0X" + q.Num().Text(16) + ".0P-" + strconv.Itoa(places),
		q.Num().String() + "/" + q.Denom().String(),
		new(big.Int).Mul(q.Num(), big.NewInt(21)).String() + "/" + new(big.Int).Mul(q.Denom(), big.NewInt(21)).String(),
	}
}

// P11.4, P11.5: at each middle the even one is taken, a hair below it the lesser, a hair above it the greater; and that
// in every way of writing, and with either sign.
func TestMiddles(t *testing.T) {
	hair := new(big.Rat).SetFrac(big.NewInt(1), power(2, 1200))
	for _, b := range sizes() {
		mid := middle(b)
		for _, c := range []struct {
			q    *big.Rat
			want uint64
		}{{mid, b + b&1}, {new(big.Rat).Sub(mid, hair), b}, {new(big.Rat).Add(mid, hair), b + 1}, {value(b), b}} {
			for _, s := range written(c.q) {
				reads(t, s, c.want)
				reads(t, "-"+s, c.want|minus)
			}
		}
	}
}

// P11.4, P11.7: a digit far behind a middle is not lost, however far, nor do zeros there count for something.
func TestFarBehindTheMiddle(t *testing.T) {
	for _, b := range []uint64{0, 1, 2, 0x000fffffffffffff, 0x000ffffffffffffe, 0x0010000000000000, 0x001fffffffffffff, one, one + 1, 0x4340000000000000, 0x43efffffffffffff, greatest - 1} {
		mid := middle(b)
		even := b + b&1
		digits := mid.FloatString(mid.Denom().BitLen() - 1)
		if !strings.Contains(digits, ".") {
			digits += "."
		}
		for _, zeros := range []int{0, 1, 18, 19, 20, 100, 760, 766, 767, 768, 769, 800, 5000} {
			pad := strings.Repeat("0", zeros)
			reads(t, digits+pad, even)
			reads(t, digits+pad+"1", b+1)
		}
		hexa := "0x" + mid.Num().Text(16) + "."
		exp := "p-" + strconv.Itoa(mid.Denom().BitLen()-1)
		for _, zeros := range []int{0, 1, 15, 16, 17, 700, 751, 752, 753, 754, 755, 767, 768, 769, 20000} {
			pad := strings.Repeat("0", zeros)
			reads(t, hexa+pad+exp, even)
			reads(t, hexa+pad+"1"+exp, b+1)
			reads(t, hexa+pad+"0000f"+exp, b+1)
		}
	}
}

// P11.4: digits 9 without end below a middle stay below it.
func TestNinesBelowTheMiddle(t *testing.T) {
	for _, nines := range []int{1, 18, 19, 20, 750, 751, 752, 753, 754, 755, 1000, 65000} {
		tail := strings.Repeat("9", nines)
		reads(t, "9007199254740992."+tail, 0x4340000000000000)
		reads(t, "9007199254740994."+tail, 0x4340000000000001)
		reads(t, "0x20000000000000."+strings.Repeat("f", nines)+"p0", 0x4340000000000000)
		reads(t, "0x20000000000002."+strings.Repeat("f", nines)+"p0", 0x4340000000000001)
	}
}

// P11.5: numerals with one value and one sign have one pattern.
func TestHoweverWritten(t *testing.T) {
	for _, group := range [][]string{
		{"0.5", "0.50", ".5", "5e-1", "50e-2", "0.05e1", "1/2", "2/4", "33/66", "0x1p-1", "0x.8p0", "0x8p-4", "0X0.80P+0", "+0.5", "500000000000000000000000000000e-30"},
		{"-1.25", "-125e-2", "-5/4", "-0x1.4p0", "-10/8", "-1.2500000000000000000000000000"},
		{"0.1", "1/10", "10/100", "1e-1", "0.10", "0.01e1", "100000000000000000000000000000000e-33", "0." + "1" + strings.Repeat("0", 1000)},
		{"1e23", "10e22", "0.1e24", "100000000000000000000000", "100000000000000000000000/1", "0x152d02c7e14af6800000p0", "0x1.52d02c7e14af68p76"},
		{"3", "3.0", "3e0", "3/1", "9/3", "0x3p0", "0x.3p4", "0x.03p8", "0x30p-4", "0.00003e5", "300000e-5"},
		{"1e-320", "10e-321", "1/1" + strings.Repeat("0", 320), "0." + strings.Repeat("0", 319) + "1"},
		{"-0", "-0.0", "-0e5", "-0/9", "-0x0p0", "-0x0.00p9", "-0e-99999999999"},
		{"0", "+0", "0.", ".0", "0/1", "0x0p0", "0e99999999999"},
		{"9007199254740993", "9007199254740993.0", "90071992547409930e-1", "9007199254740993000000000000000000e-18", "9007199254740993/1", "18014398509481986/2", "0x20000000000001p0"},
	} {
		want, err := atof.Parse(group[0])
		if err != nil {
			t.Fatal(err)
		}
		for _, s := range group {
			reads(t, s, want)
		}
	}
}

// P11.5: a zero more behind the point, or a point that is moved, changes nothing, wherever the number lies.
func TestZeroMore(t *testing.T) {
	rule := sample.Rule(115)
	for range 300 {
		digits := sample.Number(rule.List(1 + rule.Below(3))).String()
		exp := rule.Below(600) - 320 - len(digits)
		want, err := atof.Parse(digits + "e" + strconv.Itoa(exp))
		if err != nil {
			t.Fatal(err)
		}
		for more := range 40 {
			reads(t, digits+strings.Repeat("0", more)+"e"+strconv.Itoa(exp-more), want)
			reads(t, digits+"."+strings.Repeat("0", more)+"e"+strconv.Itoa(exp), want)
			reads(t, "0."+strings.Repeat("0", more)+digits+"e"+strconv.Itoa(exp+len(digits)+more), want)
		}
	}
}

// P11.4: a numeral with its sign turned has the negative pattern.
func TestSigns(t *testing.T) {
	for _, n := range mixed(2000) {
		b, e := atof.Bits(n)
		n.Neg = !n.Neg
		if c, f := atof.Bits(n); e != f || e == api.OK && c != f64.Neg(b) {
			t.Errorf("of %v: %x, %d, with its sign turned %x, %d", n, c, f, b, e)
		}
	}
}

// mixed are numerals of all kinds and sizes from a fixed rule.
func mixed(count int) []api.Numeral {
	rule := sample.Rule(116)
	var out []api.Numeral
	for range count {
		num, den := sample.Number(rule.List(1+rule.Below(3))), sample.Number(rule.List(1+rule.Below(3)))
		n := api.Numeral{Kind: 1 + rule.Below(3), Neg: rule.Below(2) == 0, Num: num.String()}
		switch n.Kind {
		case api.Decimal:
			n.Exp = rule.Below(800) - 400
		case api.Hexa:
			n.Num, n.Exp = num.Text(16), rule.Below(2400)-1200
		case api.Ratio:
			n.Den = den.String()
		}
		n.Num, n.Den = strings.TrimLeft(n.Num, "0"), strings.TrimLeft(n.Den, "0")
		if n.Kind != api.Ratio || n.Den != "" {
			out = append(out, n)
		}
	}
	return out
}

// exactly gives a numeral's exact number, by the library.
func exactly(t *testing.T, n api.Numeral) *big.Rat {
	t.Helper()
	s, e := lex.Text(n)
	if e != api.OK {
		t.Fatalf("%v is no numeral", n)
	}
	q, ok := new(big.Rat).SetString(s)
	if !ok {
		t.Fatalf("the library does not read %q", s)
	}
	return q
}

// away is the distance between two numbers.
func away(a *big.Rat, b *big.Rat) *big.Rat {
	d := new(big.Rat).Sub(a, b)
	return d.Abs(d)
}

// P11.4: no pattern is nearer to the exact number; if another is as near, the answer's lowest bit is 0.
func TestNearest(t *testing.T) {
	for _, n := range mixed(2000) {
		b, e := atof.Bits(n)
		if e != api.OK {
			continue
		}
		q := exactly(t, n)
		mine := away(q, value(b))
		for _, step := range []func(uint64) (uint64, api.Errno){f64.Next, f64.Prev} {
			other, e := step(b)
			if e != api.OK {
				continue
			}
			if order := away(q, value(other)).Cmp(mine); order < 0 || order == 0 && b&1 == 1 {
				t.Errorf("of %v: %x, but %x is as near or nearer", n, b, other)
			}
		}
	}
}

// P11.6: a greater number is never rounded below a lesser one; beyond the greatest all overflow.
func TestRising(t *testing.T) {
	type pair struct {
		n api.Numeral
		q *big.Rat
	}
	var all []pair
	for _, n := range mixed(3000) {
		all = append(all, pair{n, exactly(t, n)})
	}
	slices.SortFunc(all, func(a, b pair) int { return a.q.Cmp(b.q) })
	last := int64(math.MinInt64)
	for _, p := range all {
		rank := int64(math.MaxInt64) * int64(p.q.Sign())
		b, e := atof.Bits(p.n)
		if e == api.OK {
			rank, _ = f64.Rank(b)
		}
		if rank < last {
			t.Errorf("%v is rounded below a lesser number: %x, %d", p.n, b, e)
		}
		last = rank
	}
}

// P11.7: many digits and great exponents, alone and such as undo each other.
func TestGreatExponents(t *testing.T) {
	zeros, nines, fs := strings.Repeat("0", 65000), strings.Repeat("9", 65000), strings.Repeat("f", 65000)
	for s, want := range map[string]uint64{
		"0." + zeros + "1e65001":                        one,
		"1" + zeros + "e-65000":                         one,
		"0x0." + zeros + "1p260004":                     one,
		"0x1" + zeros + "p-260000":                      one,
		nines + "e-65000":                               one,
		"0x" + fs + "p-260000":                          one,
		"1e-1073741824":                                 0,
		"-1e-99999999999":                               minus,
		nines + "e-99999999999":                         0,
		"-" + nines + "e-1073741824":                    minus,
		"0x" + fs + "p-99999999999":                     0,
		"0e99999999999":                                 0,
		"-0x0p99999999999":                              minus,
		nines + "e-65325":                               0,
		nines + "e-65324":                               0,
		nines + "e-65323":                               2,
		nines + "e-64692":                               0x7fe1ccf385ebc8a0,
		"1" + zeros[1:] + "e-65323":                     0,
		"." + zeros[1:] + "1e64677":                     2,
		nines[:32000] + "/" + nines[:32000]:             one,
		"1/" + nines:                                    0,
		"-1/" + nines:                                   minus,
		nines[:30000] + "/1" + zeros[:30000]:            one,
		"1" + zeros[:30000] + "/" + "2" + zeros[:30000]: 0x3fe0000000000000,
	} {
		reads(t, s, want)
	}
	for _, s := range []string{nines, nines + "e-64691", "0x" + fs + "p0", nines + "/1", nines + "e99999999999", "0x" + fs + "p99999999999", "1" + zeros[1:] + "e-64690"} {
		refuses(t, s, 0, api.ErrOverflow)
	}
}

// P11.7: many at once, and one behind the other, answer the same.
func TestDetermined(t *testing.T) {
	all := mixed(300)
	ask := func() []uint64 {
		var out []uint64
		for _, n := range all {
			a, e := atof.Bits(n)
			b, f := atof.Slow(n)
			out = append(out, a, uint64(e), b, uint64(f))
		}
		return out
	}
	want := ask()
	var got [8][]uint64
	var done sync.WaitGroup
	for i := range got {
		done.Go(func() { got[i] = ask() })
	}
	done.Wait()
	for i := range got {
		if !slices.Equal(got[i], want) {
			t.Errorf("worker %d got other answers", i)
		}
	}
}
