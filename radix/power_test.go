package radix_test

import (
	"math"
	"math/big"
	"slices"
	"testing"

	"plumb/api"
	"plumb/radix"
	"plumb/sample"
)

// P4.3
func TestPowerExamples(t *testing.T) {
	for _, c := range []struct {
		n         int
		five, ten list
	}{
		{0, list{1}, list{1}},
		{1, list{5}, list{10}},
		{3, list{125}, list{1000}},
		{19, list{19073486328125}, list{10000000000000000000}},
		{20, list{95367431640625}, list{7766279631452241920, 5}},
		{27, list{7450580596923828125}, list{11515845246265065472, 54210108}},
		{28, list{359414837200037393, 2}, list{4477988020393345024, 542101086}},
	} {
		five, e := radix.Five(c.n)
		ten, f := radix.Ten(c.n)
		if !slices.Equal(five, c.five) || !slices.Equal(ten, c.ten) || e != api.OK || f != api.OK {
			t.Errorf("%d: Five %x, %d, Ten %x, %d", c.n, five, e, ten, f)
		}
	}
}

// P4.3: all of up to some hundred words, and the last ones.
func TestPowersAreThePowers(t *testing.T) {
	five, ten := big.NewInt(1), big.NewInt(1)
	for n := range 2000 {
		x, e := radix.Five(n)
		y, f := radix.Ten(n)
		if e != api.OK || f != api.OK || !sample.Is(x, five) || !sample.Is(y, ten) {
			t.Fatalf("%d: Five %x, %d, Ten %x, %d", n, x, e, y, f)
		}
		five.Mul(five, big.NewInt(5))
		ten.Mul(ten, big.NewInt(10))
	}
	for _, n := range []int{40000, 78912, 78913, 112898, 112899} {
		want := new(big.Int).Exp(big.NewInt(5), big.NewInt(int64(n)), nil)
		if x, e := radix.Five(n); e != api.OK || !sample.Is(x, want) {
			t.Errorf("Five(%d): %d words, %d", n, len(x), e)
		}
		want.Lsh(want, uint(n))
		if x, e := radix.Ten(n); n < 78914 && (e != api.OK || !sample.Is(x, want)) {
			t.Errorf("Ten(%d): %d words, %d", n, len(x), e)
		}
	}
}

// P4.3: refused at once: thousands of calls end in no time.
func TestPowersRefuse(t *testing.T) {
	five := func(n int, want api.Errno) {
		if x, e := radix.Five(n); len(x) != 0 || e != want {
			t.Fatalf("Five(%d): %d words, %d, want %d", n, len(x), e, want)
		}
	}
	ten := func(n int, want api.Errno) {
		if x, e := radix.Ten(n); len(x) != 0 || e != want {
			t.Fatalf("Ten(%d): %d words, %d, want %d", n, len(x), e, want)
		}
	}
	for n := range 20000 {
		five(112900+n, api.ErrHuge)
		ten(78914+n, api.ErrHuge)
	}
	for _, n := range []int{131071, 131072, 262144, 1 << 31, 1 << 62, math.MaxInt} {
		five(n, api.ErrHuge)
		ten(n, api.ErrHuge)
	}
	for _, n := range []int{-1, -2, -112900, math.MinInt} {
		five(n, api.ErrPower)
		ten(n, api.ErrPower)
	}
}

// P4.4
func TestCountExamples(t *testing.T) {
	hundred, _ := radix.Ten(100)
	most, _ := radix.Ten(78913)
	for _, c := range []struct {
		x    list
		want int
	}{
		{nil, 1},
		{list{0, 0}, 1},
		{list{1}, 1},
		{list{7}, 1},
		{list{8}, 1},
		{list{9}, 1},
		{list{9, 0}, 1},
		{list{10}, 2},
		{list{15}, 2},
		{list{99}, 2},
		{list{100}, 3},
		{list{m}, 20},
		{list{0, 1}, 20},
		{hundred, 101},
		{most, 78914},
		{sample.Of(4096, m), 78914},
		{sample.With(sample.Of(4096, m), 0), 78914},
		{sample.With(sample.Of(4095, 0), 1), 78894},
		{sample.With(sample.Of(4096, 0), 1), 0},
		{sample.Of(9000, m), 0},
		{sample.Of(4097, 0), 1},
	} {
		if n := radix.Count(c.x); n != c.want {
			t.Errorf("Count(%d words) = %d, want %d", len(c.x), n, c.want)
		}
	}
}

// P4.4: the powers of ten and of two, and their neighbours below, at every length up to some hundred words.
func TestCountAtTheSteps(t *testing.T) {
	one := big.NewInt(1)
	ten := big.NewInt(1)
	for n := range 2500 {
		if got := radix.Count(sample.Words(ten)); got != n+1 {
			t.Fatalf("Count(10^%d) = %d", n, got)
		}
		if got := radix.Count(sample.Words(new(big.Int).Sub(ten, one))); got != max(n, 1) {
			t.Fatalf("Count(10^%d - 1) = %d", n, got)
		}
		ten.Mul(ten, big.NewInt(10))
	}
	for n := range uint(3000) {
		two := new(big.Int).Lsh(one, n)
		if got := radix.Count(sample.Words(two)); got != len(two.String()) {
			t.Fatalf("Count(2^%d) = %d", n, got)
		}
	}
}

// P4.4: long powers of ten, and of two where they are nearest to powers of ten.
func TestCountOfTheLong(t *testing.T) {
	for n := 75000; n <= 78913; n += 301 {
		x, _ := radix.Ten(n)
		if got := radix.Count(x); got != n+1 {
			t.Errorf("Count(10^%d) = %d", n, got)
		}
		below := sample.Words(new(big.Int).Sub(sample.Number(x), big.NewInt(1)))
		if got := radix.Count(below); got != n {
			t.Errorf("Count(10^%d - 1) = %d", n, got)
		}
	}
	for _, n := range []uint{13301, 28738, 42039, 70777, 254370, 262143} {
		for _, bits := range []uint{n - 1, n, n + 1} {
			two := new(big.Int).Lsh(big.NewInt(1), bits)
			below := new(big.Int).Sub(two, big.NewInt(1))
			if got, want := radix.Count(sample.Words(below)), len(below.String()); got != want {
				t.Errorf("Count(2^%d - 1) = %d, want %d", bits, got, want)
			}
			if got, want := radix.Count(sample.Words(two)), len(two.String()); bits < 262144 && got != want {
				t.Errorf("Count(2^%d) = %d, want %d", bits, got, want)
			}
		}
	}
}

// P4.5
func TestTrimExamples(t *testing.T) {
	for _, c := range []struct {
		x, want list
		n       int
	}{
		{list{1200}, list{12}, 2},
		{list{7, 0}, list{7}, 0},
		{nil, nil, 0},
		{list{0}, nil, 0},
		{list{0, 0}, nil, 0},
		{list{7766279631452241920, 5}, list{1}, 20},
		{list{0, 1}, list{0, 1}, 0},
		{list{10}, list{1}, 1},
		{list{5}, list{5}, 0},
		{list{25, 0}, list{25}, 0},
		{list{250}, list{25}, 1},
		{list{0, 5}, list{1 << 63}, 1},
		{list{10000000000000000000, 0, 0}, list{1}, 19},
	} {
		if y, n := radix.Trim(c.x); !slices.Equal(y, c.want) || n != c.n {
			t.Errorf("Trim(%x) = %x, %d, want %x, %d", c.x, y, n, c.want, c.n)
		}
	}
}

// trimmed holds Trim to what x, which 10 doesn't divide, is times ten to the n.
func trimmed(t *testing.T, x *big.Int, n int) {
	t.Helper()
	ten := new(big.Int).Exp(big.NewInt(10), big.NewInt(int64(n)), nil)
	if y, k := radix.Trim(sample.Words(ten.Mul(ten, x))); k != n || !sample.Is(y, x) {
		t.Errorf("Trim(%d bits times 10^%d): %d words, %d", x.BitLen(), n, len(y), k)
	}
}

// P4.5: with twos, with fives, and with neither left over.
func TestTrimTakesAllTens(t *testing.T) {
	for n := range 300 {
		for _, x := range []int64{1, 2, 3, 5, 8, 25, 77, 1 << 62, 7450580596923828125} {
			trimmed(t, big.NewInt(x), n)
		}
		trimmed(t, new(big.Int).Exp(big.NewInt(5), big.NewInt(int64(300-n)), nil), n)
		trimmed(t, new(big.Int).Lsh(big.NewInt(1), uint(300-n)), n)
	}
	for _, x := range sample.Lists() {
		odd := sample.Number(x)
		trimmed(t, odd.Mul(odd, big.NewInt(10)).Add(odd, big.NewInt(3)), 40)
	}
}

// P4.5: it knows no limit.
func TestTrimOfTheLong(t *testing.T) {
	trimmed(t, big.NewInt(1), 78913)
	trimmed(t, big.NewInt(7), 131071)
	trimmed(t, big.NewInt(3), 300001)
	rule := sample.Rule(45)
	x := rule.List(6000)
	x[0] |= 1
	trimmed(t, sample.Number(x), 0)
	trimmed(t, sample.Number(x), 5)
	if y, n := radix.Trim(sample.With(sample.Of(9000, 0), 3)); n != 0 || len(y) != 9001 {
		t.Errorf("Trim of 3 * 2^576000: %d words, %d", len(y), n)
	}
}
