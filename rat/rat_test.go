package rat_test

import (
	"math"
	"math/big"
	"slices"
	"testing"

	"plumb/api"
	"plumb/rat"
	"plumb/sample"
)

const m = math.MaxUint64

type list = []uint64

// operation is one of the four.
type operation func(a, b api.Rat) (api.Rat, api.Errno)

// same tells whether two are the same, field by field (an empty list as nil).
func same(a, b api.Rat) bool {
	return a.Neg == b.Neg && slices.Equal(a.Num, b.Num) && slices.Equal(a.Den, b.Den)
}

// of gives a big.Rat as it must be answered.
func of(q *big.Rat) api.Rat {
	return api.Rat{Neg: q.Sign() < 0, Num: sample.Words(new(big.Int).Abs(q.Num())), Den: sample.Words(q.Denom())}
}

// exact gives the number of a Rat.
func exact(a api.Rat) *big.Rat {
	q := new(big.Rat).SetFrac(sample.Number(a.Num), sample.Number(a.Den))
	if a.Neg {
		q.Neg(q)
	}
	return q
}

// text gives the Rat of a text.
func text(t *testing.T, s string) api.Rat {
	t.Helper()
	q, ok := new(big.Rat).SetString(s)
	if !ok {
		t.Fatalf("%q is no number", s)
	}
	return of(q)
}

// negated gives a with its sign turned; a isn't 0.
func negated(a api.Rat) api.Rat {
	return api.Rat{Neg: !a.Neg, Num: a.Num, Den: a.Den}
}

// is holds an answer to a Rat and OK.
func is(t *testing.T, what string, got api.Rat, e api.Errno, want api.Rat) {
	t.Helper()
	if e != api.OK || !same(got, want) {
		t.Errorf("%s = %v, %d, want %v", what, got, e, want)
	}
}

// refused holds an answer to an error alone.
func refused(t *testing.T, what string, got api.Rat, e api.Errno, code api.Errno) {
	t.Helper()
	if e != code || !same(got, api.Rat{}) {
		t.Errorf("%s: %d and %d words, error %d, want %d alone", what, len(got.Num), len(got.Den), e, code)
	}
}

// rats are Rats of both signs: whole ones, fractions, such as cancel, and such of some words.
func rats() []api.Rat {
	out := []api.Rat{rat.Int(0)}
	add := func(num, den *big.Int) {
		if num.Sign() == 0 || den.Sign() == 0 {
			return
		}
		a := of(new(big.Rat).SetFrac(num, den))
		out = append(out, a, negated(a))
	}
	for num := range int64(5) {
		for den := range int64(5) {
			add(big.NewInt(num), big.NewInt(den))
		}
	}
	lists := sample.Lists()
	for i := 0; i+1 < len(lists); i += 2 {
		add(sample.Number(lists[i]), sample.Number(lists[len(lists)-1-i]))
		add(sample.Number(lists[i]), new(big.Int).Lsh(big.NewInt(1), uint(i)))
	}
	return out
}

// wrongs are such as are no Rats.
func wrongs() []api.Rat {
	return []api.Rat{
		{},
		{Num: list{1}},
		{Num: list{1}, Den: list{0}},
		{Num: list{1}, Den: list{0, 0}},
		{Num: list{2}, Den: list{4}},
		{Num: list{3}, Den: list{3}},
		{Neg: true, Den: list{1}},
		{Neg: true},
		{Num: list{1, 0}, Den: list{2}},
		{Num: list{1}, Den: list{2, 0}},
		{Num: list{0}, Den: list{1}},
		{Neg: true, Num: list{0}, Den: list{1}},
		{Den: list{2}},
		{Num: list{0, 6}, Den: list{0, 9}},
		{Num: list{0, 1}, Den: list{2}},
		{Num: sample.With(sample.Of(4096, 0), 1), Den: list{1}},
		{Num: list{1}, Den: sample.With(sample.Of(4096, 0), 1)},
		{Num: sample.With(sample.Of(4095, 0), 1, 0), Den: list{1}},
		{Num: sample.Of(5000, 0), Den: sample.Of(5000, 0)},
		{Num: sample.Of(4096, m), Den: sample.Of(2048, m)},
	}
}

// P5.1
func TestNewExamples(t *testing.T) {
	long := sample.With(sample.Of(4096, 0), 1)
	for _, c := range []struct {
		neg      bool
		num, den list
		want     string
	}{
		{false, list{6}, list{4}, "3/2"},
		{true, list{6}, list{4}, "-3/2"},
		{true, list{6, 0}, list{3}, "-2"},
		{true, nil, list{7}, "0"},
		{false, list{0, 0}, list{7, 0}, "0"},
		{false, list{5, 0, 0}, list{10, 0}, "1/2"},
		{false, list{0, 1}, list{0, 2}, "1/2"},
		{true, list{0, 1}, list{1}, "-18446744073709551616"},
		{false, list{1}, list{m}, "1/18446744073709551615"},
		{true, sample.Of(5000, 0), list{9}, "0"},
		{false, sample.Of(4096, m), sample.Of(4096, m), "1"},
		{true, sample.With(sample.Of(4096, 6), 0), sample.With(sample.Of(4096, 4), 0, 0), "-3/2"},
	} {
		got, e := rat.New(c.neg, c.num, c.den)
		is(t, "New", got, e, text(t, c.want))
	}
	for i, c := range []struct {
		num, den list
		code     api.Errno
	}{
		{list{1}, list{0}, api.ErrZeroDen},
		{nil, nil, api.ErrZeroDen},
		{list{5}, sample.Of(5000, 0), api.ErrZeroDen},
		{long, nil, api.ErrZeroDen},
		{long, list{1}, api.ErrHuge},
		{list{1}, long, api.ErrHuge},
		{nil, long, api.ErrHuge},
		{long, long, api.ErrHuge},
		{sample.With(long, 0), list{7}, api.ErrHuge},
	} {
		got, e := rat.New(i%2 == 0, c.num, c.den)
		refused(t, "New", got, e, c.code)
	}
}

// P5.1, P5.2: whatever the lists are, the answer is a Rat, and that of the quotient.
func TestNewIsTheQuotient(t *testing.T) {
	for _, num := range sample.Lists() {
		for _, den := range sample.Lists() {
			if sample.Number(den).Sign() == 0 {
				continue
			}
			want := new(big.Rat).SetFrac(sample.Number(num), sample.Number(den))
			got, e := rat.New(false, num, den)
			is(t, "New", got, e, of(want))
			got, e = rat.New(true, num, den)
			is(t, "New with a minus", got, e, of(want.Neg(want)))
			if code := rat.Check(got); code != api.OK {
				t.Errorf("Check(New(true, %x, %x)) = %d", num, den, code)
			}
		}
	}
}

// P5.2
func TestCheck(t *testing.T) {
	for i, a := range wrongs() {
		if e := rat.Check(a); e != api.ErrRat {
			t.Errorf("Check of wrong Rat %d = %d", i, e)
		}
	}
	good := append(rats(),
		api.Rat{Den: list{1}},
		api.Rat{Num: list{}, Den: list{1}},
		api.Rat{Num: sample.Of(4096, m), Den: list{1}},
		api.Rat{Neg: true, Num: list{1}, Den: sample.Of(4096, m)},
		api.Rat{Num: sample.Of(4096, m), Den: sample.With(sample.Of(4095, 0), 1<<63)},
	)
	for _, a := range good {
		if e := rat.Check(a); e != api.OK {
			t.Errorf("Check(%v %d words by %d) = %d", a.Neg, len(a.Num), len(a.Den), e)
		}
	}
	for num := range uint64(40) {
		for den := range uint64(40) {
			divisor := new(big.Int).GCD(nil, nil, sample.Number(list{num}), sample.Number(list{den}))
			want := api.ErrRat
			if den != 0 && divisor.IsInt64() && divisor.Int64() == 1 {
				want = api.OK
			}
			a := api.Rat{Num: sample.Words(sample.Number(list{num})), Den: sample.Words(sample.Number(list{den}))}
			if e := rat.Check(a); e != want {
				t.Errorf("Check(%d/%d) = %d, want %d", num, den, e, want)
			}
		}
	}
}

// P5.2
func TestInt(t *testing.T) {
	for _, v := range []int64{0, 1, -1, 5, -5, 1 << 32, math.MaxInt64, -math.MaxInt64, math.MinInt64, math.MinInt64 + 1} {
		is(t, "Int", rat.Int(v), rat.Check(rat.Int(v)), of(big.NewRat(v, 1)))
	}
}

// P5.3, P5.4
func TestOperationExamples(t *testing.T) {
	for _, c := range []struct {
		name       string
		f          operation
		a, b, want string
	}{
		{"Add", rat.Add, "1/2", "1/3", "5/6"},
		{"Add", rat.Add, "1/2", "-1/2", "0"},
		{"Add", rat.Add, "-1/2", "1/2", "0"},
		{"Add", rat.Add, "1/6", "1/3", "1/2"},
		{"Add", rat.Add, "-1/2", "1/3", "-1/6"},
		{"Add", rat.Add, "1/3", "-1/2", "-1/6"},
		{"Add", rat.Add, "0", "-5", "-5"},
		{"Add", rat.Add, "-5", "0", "-5"},
		{"Add", rat.Add, "0", "0", "0"},
		{"Sub", rat.Sub, "1/2", "1/3", "1/6"},
		{"Sub", rat.Sub, "0", "1/3", "-1/3"},
		{"Sub", rat.Sub, "0", "-1/3", "1/3"},
		{"Sub", rat.Sub, "1/3", "0", "1/3"},
		{"Sub", rat.Sub, "-1/3", "0", "-1/3"},
		{"Sub", rat.Sub, "0", "0", "0"},
		{"Sub", rat.Sub, "-1/2", "-1/2", "0"},
		{"Sub", rat.Sub, "1/3", "-1/3", "2/3"},
		{"Mul", rat.Mul, "-2/3", "3/4", "-1/2"},
		{"Mul", rat.Mul, "-2/3", "-3/4", "1/2"},
		{"Mul", rat.Mul, "0", "-5", "0"},
		{"Mul", rat.Mul, "-5", "0", "0"},
		{"Div", rat.Div, "1/2", "-1/4", "-2"},
		{"Div", rat.Div, "-1/2", "-1/4", "2"},
		{"Div", rat.Div, "0", "-7", "0"},
		{"Div", rat.Div, "7", "2", "7/2"},
	} {
		got, e := c.f(text(t, c.a), text(t, c.b))
		is(t, c.name+"("+c.a+", "+c.b+")", got, e, text(t, c.want))
	}
	for _, s := range []string{"1", "-1/3", "0"} {
		got, e := rat.Div(text(t, s), rat.Int(0))
		refused(t, "Div("+s+", 0)", got, e, api.ErrZeroDen)
	}
}

// P5.3, P5.4, P5.5: what is no Rat goes ahead of all else, first or second.
func TestOperationsRefuseWhatIsNoRat(t *testing.T) {
	good := []api.Rat{rat.Int(0), rat.Int(-3), {Num: sample.With(sample.Of(4095, 0), 1<<63), Den: list{1}}}
	for _, c := range []struct {
		name string
		f    operation
	}{{"Add", rat.Add}, {"Sub", rat.Sub}, {"Mul", rat.Mul}, {"Div", rat.Div}, {"Cmp", compared}} {
		for _, bad := range wrongs() {
			for _, other := range append(good, bad) {
				got, e := c.f(bad, other)
				refused(t, c.name+", the first no Rat", got, e, api.ErrRat)
				got, e = c.f(other, bad)
				refused(t, c.name+", the second no Rat", got, e, api.ErrRat)
			}
		}
	}
}

// compared is Cmp as an operation, whose answer is empty where the order is 0.
func compared(a, b api.Rat) (api.Rat, api.Errno) {
	order, e := rat.Cmp(a, b)
	return api.Rat{Neg: order != 0}, e
}

// P5.3, P5.4, P5.5: against exact numbers of another road.
func TestOperationsAreExact(t *testing.T) {
	all := rats()
	for _, a := range all {
		for _, b := range all {
			x, y := exact(a), exact(b)
			got, e := rat.Add(a, b)
			is(t, "Add", got, e, of(new(big.Rat).Add(x, y)))
			got, e = rat.Sub(a, b)
			is(t, "Sub", got, e, of(new(big.Rat).Sub(x, y)))
			got, e = rat.Mul(a, b)
			is(t, "Mul", got, e, of(new(big.Rat).Mul(x, y)))
			if y.Sign() != 0 {
				got, e = rat.Div(a, b)
				is(t, "Div", got, e, of(new(big.Rat).Quo(x, y)))
			}
			if order, e := rat.Cmp(a, b); e != api.OK || order != x.Cmp(y) {
				t.Errorf("Cmp(%v, %v) = %d, %d", a, b, order, e)
			}
		}
	}
}

// P5.5
func TestCmpExamples(t *testing.T) {
	for _, c := range []struct {
		a, b string
		want int
	}{
		{"1/3", "1/2", -1},
		{"-1/3", "-1/2", 1},
		{"-1", "0", -1},
		{"0", "-1", 1},
		{"0", "1/9", -1},
		{"0", "0", 0},
		{"-7/3", "-7/3", 0},
		{"7", "20/3", 1},
		{"-7", "20/3", -1},
	} {
		if got, e := rat.Cmp(text(t, c.a), text(t, c.b)); got != c.want || e != api.OK {
			t.Errorf("Cmp(%s, %s) = %d, %d, want %d", c.a, c.b, got, e, c.want)
		}
	}
}

// P5.5: Sign is of any api.Rat.
func TestSign(t *testing.T) {
	for _, a := range rats() {
		if got := rat.Sign(a); got != exact(a).Sign() {
			t.Errorf("Sign(%v) = %d", a, got)
		}
	}
	for _, c := range []struct {
		a    api.Rat
		want int
	}{
		{api.Rat{}, 0},
		{api.Rat{Neg: true}, 0},
		{api.Rat{Neg: true, Num: list{0, 0}}, 0},
		{api.Rat{Num: sample.Of(5000, 0), Den: list{0}}, 0},
		{api.Rat{Neg: true, Num: list{1}}, -1},
		{api.Rat{Num: list{1}}, 1},
		{api.Rat{Neg: true, Num: list{1, 0}, Den: list{0}}, -1},
		{api.Rat{Neg: true, Num: list{0, 1, 0}}, -1},
		{api.Rat{Num: sample.With(sample.Of(5000, 0), 1)}, 1},
	} {
		if got := rat.Sign(c.a); got != c.want {
			t.Errorf("Sign(%v, %d words) = %d, want %d", c.a.Neg, len(c.a.Num), got, c.want)
		}
	}
}

// P5.6
func TestFloor(t *testing.T) {
	for _, c := range [][2]string{
		{"7/2", "3"}, {"-7/2", "-4"}, {"-4", "-4"}, {"4", "4"}, {"1/9", "0"}, {"-1/9", "-1"}, {"0", "0"},
		{"18446744073709551615/2", "9223372036854775807"},
		{"-36893488147419103231/2", "-18446744073709551616"},
	} {
		got, e := rat.Floor(text(t, c[0]))
		is(t, "Floor("+c[0]+")", got, e, text(t, c[1]))
	}
	for _, a := range rats() {
		x := exact(a)
		// With a divisor above 0 big's Div is rounded down.
		want := new(big.Rat).SetInt(new(big.Int).Div(x.Num(), x.Denom()))
		got, e := rat.Floor(a)
		is(t, "Floor", got, e, of(want))
	}
	for _, bad := range wrongs() {
		got, e := rat.Floor(bad)
		refused(t, "Floor of no Rat", got, e, api.ErrRat)
	}
}

// P5.6: the longest ones; the half of -(2^262144 - 1) is carried up to a power of two.
func TestFloorAtTheLimit(t *testing.T) {
	whole := api.Rat{Neg: true, Num: sample.Of(4096, m), Den: list{1}}
	got, e := rat.Floor(whole)
	is(t, "Floor of -(2^262144 - 1)", got, e, whole)
	got, e = rat.Floor(api.Rat{Neg: true, Num: sample.Of(4096, m), Den: list{2}})
	is(t, "Floor of its half", got, e, api.Rat{Neg: true, Num: sample.With(sample.Of(4095, 0), 1<<63), Den: list{1}})
	got, e = rat.Floor(api.Rat{Neg: true, Num: list{1}, Den: sample.Of(4096, m)})
	is(t, "Floor of a tiny one below 0", got, e, rat.Int(-1))
}
