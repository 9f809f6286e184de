package quot_test

import (
	"math"
	"math/big"
	"slices"
	"testing"

	"plumb/api"
	"plumb/quot"
	"plumb/sample"
)

const (
	m   = math.MaxUint64 // all bits 1
	top = 1 << 63        // the highest bit alone
)

type list = []uint64

// P3.1
func TestDivModExamples(t *testing.T) {
	for _, c := range []struct {
		x, y, q, r list
		e          api.Errno
	}{
		{list{17}, list{5}, list{3}, list{2}, api.OK},
		{list{5}, list{17}, nil, list{5}, api.OK},
		{nil, list{5}, nil, nil, api.OK},
		{list{0, 1}, list{0, 1}, list{1}, nil, api.OK},
		{list{0, 1, 0}, list{0, 1, 0, 0}, list{1}, nil, api.OK},
		{list{0, 0, 1}, list{1, 1}, list{m}, list{1}, api.OK},
		{list{m, m}, list{m}, list{1, 1}, nil, api.OK},
		{list{0, 0, top}, list{1, top}, list{m}, list{1, top - 1}, api.OK},
		{list{5, 0}, list{0, 1}, nil, list{5}, api.OK},
		{list{7, 0, 0}, list{7, 0}, list{1}, nil, api.OK},
		{list{5}, nil, nil, nil, api.ErrByZero},
		{list{5}, list{}, nil, nil, api.ErrByZero},
		{nil, list{0, 0}, nil, nil, api.ErrByZero},
		{nil, nil, nil, nil, api.ErrByZero},
		{list{1, 2, 3, 0}, list{0}, nil, nil, api.ErrByZero},
	} {
		q, r, e := quot.DivMod(c.x, c.y)
		if !slices.Equal(q, c.q) || !slices.Equal(r, c.r) || e != c.e {
			t.Errorf("DivMod(%x, %x) = %x, %x, %d, want %x, %x, %d", c.x, c.y, q, r, e, c.q, c.r, c.e)
		}
	}
}

// divides holds DivMod to the exact quotient and rest.
func divides(t *testing.T, x, y list) {
	t.Helper()
	by := sample.Number(y)
	if by.Sign() == 0 {
		return
	}
	wantQ, wantR := new(big.Int).QuoRem(sample.Number(x), by, new(big.Int))
	q, r, e := quot.DivMod(x, y)
	if e != api.OK || !sample.Is(q, wantQ) || !sample.Is(r, wantR) {
		t.Fatalf("DivMod(%x, %x) = %x, %x, %d, want %x, %x", x, y, q, r, e, wantQ, wantR)
	}
}

// P3.1
func TestDivModIsTheQuotient(t *testing.T) {
	for _, x := range sample.Lists() {
		for _, y := range sample.Lists() {
			divides(t, x, y)
		}
	}
	rule := sample.Rule(3)
	for range 20000 {
		divides(t, rule.List(rule.Below(9)), rule.List(rule.Below(6)))
	}
}

// P3.1: where the guess by the highest words is too great by one or by two, or is held at the greatest word, or where
// it is still too great by one after it was looked at with a word more.
func TestDivModGuesses(t *testing.T) {
	near := []uint64{0, 1, 2, m - 1, m, top - 1, top, top + 1}
	for _, v0 := range near {
		for _, v1 := range near {
			for _, v2 := range []uint64{1, 2, top - 1, top, top + 1, m} {
				y := list{v0, v1, v2}
				for _, u0 := range near {
					for _, u1 := range near {
						divides(t, list{u0, u1, v1, v2}, y)
						divides(t, list{u0, u1, v1 - 1, v2}, y)
						divides(t, list{u0, u1, m, v2 - 1}, y)
						divides(t, list{m, u0, u1, 0, v2 - 1}, y)
						divides(t, list{u0, u1, m - 1, m}, y)
					}
				}
			}
		}
	}
}

// P3.1, P3.8: DivMod of q * y + r by y is q and r, at the rests 0 and y - 1, where a quotient's word goes wrong first.
func TestDivModTakesBackProducts(t *testing.T) {
	one := big.NewInt(1)
	for _, y := range sample.Lists() {
		by := sample.Number(y)
		if by.Sign() == 0 {
			continue
		}
		for _, q := range sample.Lists() {
			for _, r := range []*big.Int{new(big.Int), new(big.Int).Sub(by, one), new(big.Int).Rsh(by, 1)} {
				x := new(big.Int).Mul(sample.Number(q), by)
				gotQ, gotR, e := quot.DivMod(sample.Words(x.Add(x, r)), y)
				if e != api.OK || !sample.Is(gotQ, sample.Number(q)) || !sample.Is(gotR, r) {
					t.Errorf("DivMod(%x * %x + %x, %x) = %x, %x, %d", q, y, r, y, gotQ, gotR, e)
				}
			}
		}
	}
}

// P3.2
func TestSmall(t *testing.T) {
	for _, c := range []struct {
		x    list
		d    uint64
		q    list
		r    uint64
		code api.Errno
	}{
		{list{0, 1}, 10, list{1844674407370955161}, 6, api.OK},
		{nil, 7, nil, 0, api.OK},
		{list{0, 0}, 7, nil, 0, api.OK},
		{list{7}, 0, nil, 0, api.ErrByZero},
		{nil, 0, nil, 0, api.ErrByZero},
		{list{7, 0}, 9, nil, 7, api.OK},
		{list{5, 6, 7}, 1, list{5, 6, 7}, 0, api.OK},
		{list{m, m}, m, list{1, 1}, 0, api.OK},
		{list{m - 1, m - 1}, m, list{m}, m - 2, api.OK},
	} {
		q, r, e := quot.Small(c.x, c.d)
		if !slices.Equal(q, c.q) || r != c.r || e != c.code {
			t.Errorf("Small(%x, %x) = %x, %x, %d, want %x, %x, %d", c.x, c.d, q, r, e, c.q, c.r, c.code)
		}
	}
	for _, x := range sample.Lists() {
		for _, d := range []uint64{1, 2, 3, 10, 1 << 32, top - 1, top, top + 1, m - 1, m, 10000000000000000000} {
			wantQ, wantR := new(big.Int).QuoRem(sample.Number(x), new(big.Int).SetUint64(d), new(big.Int))
			q, r, e := quot.Small(x, d)
			if e != api.OK || !sample.Is(q, wantQ) || r != wantR.Uint64() {
				t.Errorf("Small(%x, %x) = %x, %x, %d, want %x, %x", x, d, q, r, e, wantQ, wantR)
			}
		}
	}
}

// P3.3, P3.6
func TestGcdAndLowestExamples(t *testing.T) {
	for _, c := range []struct{ x, y, g, a, b list }{
		{list{12}, list{18}, list{6}, list{2}, list{3}},
		{nil, list{5}, list{5}, nil, list{1}},
		{list{5}, nil, list{5}, list{1}, nil},
		{list{5, 0}, nil, list{5}, list{1}, nil},
		{list{0}, list{0, 3, 0}, list{0, 3}, nil, list{1}},
		{nil, nil, nil, nil, nil},
		{list{0, 0}, list{0}, nil, nil, nil},
		{list{0, 1}, list{6}, list{2}, list{top}, list{3}},
		{list{17}, list{17, 0}, list{17}, list{1}, list{1}},
		{list{1}, list{m, m}, list{1}, list{1}, list{m, m}},
		{list{0, 0, 1}, list{0, 3}, list{0, 1}, list{0, 1}, list{3}},
	} {
		if g := quot.Gcd(c.x, c.y); !slices.Equal(g, c.g) {
			t.Errorf("Gcd(%x, %x) = %x, want %x", c.x, c.y, g, c.g)
		}
		if a, b := quot.Lowest(c.x, c.y); !slices.Equal(a, c.a) || !slices.Equal(b, c.b) {
			t.Errorf("Lowest(%x, %x) = %x, %x, want %x, %x", c.x, c.y, a, b, c.a, c.b)
		}
	}
}

// common holds Gcd and Lowest to the exact divisor and what it leaves.
func common(t *testing.T, x, y list) {
	t.Helper()
	a, b := sample.Number(x), sample.Number(y)
	want := new(big.Int).GCD(nil, nil, a, b)
	if g := quot.Gcd(x, y); !sample.Is(g, want) {
		t.Fatalf("Gcd(%x, %x) = %x, want %x", x, y, g, want)
	}
	if want.Sign() != 0 {
		a.Quo(a, want)
		b.Quo(b, want)
	}
	if gotA, gotB := quot.Lowest(x, y); !sample.Is(gotA, a) || !sample.Is(gotB, b) {
		t.Fatalf("Lowest(%x, %x) = %x, %x, want %x, %x", x, y, gotA, gotB, a, b)
	}
}

// P3.3, P3.6
func TestGcdIsTheGreatest(t *testing.T) {
	for _, x := range sample.Lists() {
		for _, y := range sample.Lists() {
			common(t, x, y)
		}
	}
	rule := sample.Rule(33)
	for range 10000 {
		x, y, g := rule.List(rule.Below(7)), rule.List(rule.Below(7)), sample.Number(rule.List(rule.Below(4)))
		common(t, x, y)
		common(t, sample.Words(g.Mul(g, sample.Number(x))), sample.Words(new(big.Int).Mul(g, sample.Number(y))))
	}
}

// P3.3: neighbours of Fibonacci's row take the most steps, each with the quotient 1; their likes with one great quotient
// among small ones make the foreseen steps end there.
func TestGcdOfLongRows(t *testing.T) {
	for _, great := range []list{{1}, {2}, {m}, {0, 1}, {5, m, 1}} {
		for at := range 300 {
			a, b := big.NewInt(0), big.NewInt(7)
			for i := range 300 {
				q := big.NewInt(1)
				if i == at {
					q = sample.Number(great)
				}
				a, b = b, a.Add(a, q.Mul(q, b))
			}
			common(t, sample.Words(b), sample.Words(a))
			common(t, sample.Words(a), sample.Words(b))
		}
	}
}

// P3.4
func TestPow(t *testing.T) {
	for _, c := range []struct {
		x    list
		n    int
		want list
		code api.Errno
	}{
		{list{2}, 10, list{1024}, api.OK},
		{list{10}, 20, list{7766279631452241920, 5}, api.OK},
		{nil, 0, list{1}, api.OK},
		{list{0, 0}, 0, list{1}, api.OK},
		{list{7, 0, 7}, 0, list{1}, api.OK},
		{sample.Of(5000, m), 0, list{1}, api.OK},
		{nil, 9, nil, api.OK},
		{list{0, 0}, 1, nil, api.OK},
		{sample.Of(5000, 0), math.MaxInt, nil, api.OK},
		{list{1}, 1 << 62, list{1}, api.OK},
		{list{1, 0}, 1 << 62, list{1}, api.OK},
		{list{1}, math.MaxInt, list{1}, api.OK},
		{list{2}, -1, nil, api.ErrPower},
		{nil, -1, nil, api.ErrPower},
		{list{1}, math.MinInt, nil, api.ErrPower},
		{sample.Of(5000, m), -5, nil, api.ErrPower},
		{list{2}, 262144, nil, api.ErrHuge},
		{list{3}, 1 << 62, nil, api.ErrHuge},
		{list{2}, math.MaxInt, nil, api.ErrHuge},
		{list{m, m}, math.MaxInt, nil, api.ErrHuge},
		{list{7, 0}, 1, list{7}, api.OK},
		{list{0, 1}, 2, list{0, 0, 1}, api.OK},
		{list{m}, 2, list{1, m - 1}, api.OK},
	} {
		p, e := quot.Pow(c.x, c.n)
		if !slices.Equal(p, c.want) || e != c.code {
			t.Errorf("Pow(%d words, %d) = %x, %d, want %x, %d", len(c.x), c.n, p, e, c.want, c.code)
		}
	}
}

// P3.4
func TestPowIsThePower(t *testing.T) {
	for _, x := range sample.Lists() {
		for n := range 20 {
			p, e := quot.Pow(x, n)
			if want := new(big.Int).Exp(sample.Number(x), big.NewInt(int64(n)), nil); e != api.OK || !sample.Is(p, want) {
				t.Errorf("Pow(%x, %d) = %x, %d, want %x", x, n, p, e, want)
			}
		}
	}
}

// P3.4: the greatest power of 4096 words, and the next one.
func TestPowAtTheLimit(t *testing.T) {
	for _, c := range []struct {
		x    list
		most int
	}{
		{list{2}, 262143},
		{list{3}, 165394},
		{list{10}, 78913},
		{list{5, 0}, 112899},
		{list{m}, 4096},
		{list{0, 1}, 4095},
		{list{m, m}, 2048},
		{sample.Of(1366, m), 2},
		{sample.Of(2048, m), 2},
		{sample.With(sample.Of(2048, 0), 1), 1},
		{sample.With(sample.Of(2047, m), 0, 0), 2},
		{sample.Of(4096, m), 1},
		{sample.With(sample.Of(4096, m), 1), 0},
	} {
		p, e := quot.Pow(c.x, c.most)
		want := new(big.Int).Exp(sample.Number(c.x), big.NewInt(int64(c.most)), nil)
		if e != api.OK || len(p) > api.MaxLimbs || !sample.Is(p, want) {
			t.Errorf("Pow(%d words, %d): %d words, %d", len(c.x), c.most, len(p), e)
		}
		if p, e = quot.Pow(c.x, c.most+1); e != api.ErrHuge || len(p) != 0 {
			t.Errorf("Pow(%d words, %d): %d words, %d, want ErrHuge alone", len(c.x), c.most+1, len(p), e)
		}
	}
}

// P3.5
func TestRootExamples(t *testing.T) {
	for _, c := range []struct {
		x, s list
		just bool
	}{
		{nil, nil, true},
		{list{0, 0}, nil, true},
		{list{1}, list{1}, true},
		{list{2}, list{1}, false},
		{list{3}, list{1}, false},
		{list{4}, list{2}, true},
		{list{24}, list{4}, false},
		{list{25}, list{5}, true},
		{list{26, 0}, list{5}, false},
		{list{m}, list{1<<32 - 1}, false},
		{list{0, 1}, list{1 << 32}, true},
		{list{m, m}, list{m}, false},
		{list{0, 0, 1}, list{0, 1}, true},
		{list{1, m - 1}, list{m}, true},
		{list{0, m - 1}, list{m - 1}, false},
	} {
		if s, just := quot.Root(c.x); !slices.Equal(s, c.s) || just != c.just {
			t.Errorf("Root(%x) = %x, %v, want %x, %v", c.x, s, just, c.s, c.just)
		}
	}
}

// rooted holds Root to the exact root.
func rooted(t *testing.T, x *big.Int) {
	t.Helper()
	want := new(big.Int).Sqrt(x)
	just := new(big.Int).Mul(want, want).Cmp(x) == 0
	if s, got := quot.Root(sample.Words(x)); !sample.Is(s, want) || got != just {
		t.Fatalf("Root(%x) = %x, %v, want %x, %v", x, s, got, want, just)
	}
}

// P3.5: of all small numbers, and around squares of all lengths.
func TestRootIsTheRoot(t *testing.T) {
	for x := range int64(3000) {
		rooted(t, big.NewInt(x))
	}
	one := big.NewInt(1)
	rule := sample.Rule(5)
	for bits := range uint(1000) {
		power := new(big.Int).Lsh(one, bits)
		for _, s := range []*big.Int{power, new(big.Int).Sub(power, one), sample.Number(rule.List(1 + int(bits)/64))} {
			square := new(big.Int).Mul(s, s)
			rooted(t, square)
			rooted(t, new(big.Int).Add(square, one))
			rooted(t, new(big.Int).Add(square, s))
			rooted(t, square.Add(square, s).Add(square, s))
			if s.Sign() > 0 {
				rooted(t, new(big.Int).Sub(new(big.Int).Mul(s, s), one))
			}
		}
	}
}
