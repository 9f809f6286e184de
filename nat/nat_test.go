package nat_test

import (
	"math"
	"math/big"
	"slices"
	"testing"

	"plumb/api"
	"plumb/nat"
	"plumb/sample"
)

const (
	m   = math.MaxUint64 // all bits 1
	top = 1 << 63        // the highest bit alone
)

type list = []uint64

// shifts are distances at which a word or a list ends.
func shifts() []int {
	return []int{0, 1, 2, 7, 31, 32, 63, 64, 65, 100, 127, 128, 129, 191, 192, 193, 640, 703, 704, 705, 1000}
}

// is checks an answer of one list.
func is(t *testing.T, what string, got list, e api.Errno, want list, code api.Errno) {
	t.Helper()
	if e != code || !slices.Equal(got, want) {
		t.Errorf("%s = %x, %d, want %x, %d", what, got, e, want, code)
	}
}

// huge checks an answer that must be ErrHuge.
func huge(t *testing.T, what string, got list, e api.Errno) {
	t.Helper()
	if e != api.ErrHuge || len(got) != 0 {
		t.Errorf("%s: %d words, %d, want ErrHuge alone", what, len(got), e)
	}
}

// fits checks a long answer that must be a normal list.
func fits(t *testing.T, what string, got list, e api.Errno, want list) {
	t.Helper()
	if e != api.OK || !slices.Equal(got, want) {
		t.Errorf("%s: %d words, %d, want %d words, OK", what, len(got), e, len(want))
	}
}

// P2.1
func TestNorm(t *testing.T) {
	for _, c := range []struct{ x, want list }{
		{list{5, 0, 0}, list{5}},
		{list{0, 0}, nil},
		{nil, nil},
		{list{}, nil},
		{list{0, 1}, list{0, 1}},
		{list{0, 1, 0}, list{0, 1}},
	} {
		if got := nat.Norm(c.x); !slices.Equal(got, c.want) {
			t.Errorf("Norm(%x) = %x, want %x", c.x, got, c.want)
		}
	}
	for _, x := range sample.Lists() {
		if got := nat.Norm(x); !sample.Is(got, sample.Number(x)) {
			t.Errorf("Norm(%x) = %x", x, got)
		}
	}
	for _, n := range []int{4096, 4097, 70000} {
		x := sample.With(sample.Of(n, m), 0, 0)
		if got := nat.Norm(x); !slices.Equal(got, x[:n]) {
			t.Errorf("Norm of %d words: %d words", n, len(got))
		}
	}
}

// P2.1
func TestFromAndWord(t *testing.T) {
	if got := nat.From(0); len(got) != 0 {
		t.Errorf("From(0) = %x", got)
	}
	for _, v := range []uint64{0, 1, top, m} {
		x := nat.From(v)
		if !sample.Is(x, new(big.Int).SetUint64(v)) {
			t.Errorf("From(%x) = %x", v, x)
		}
		if got, ok := nat.Word(x); got != v || !ok {
			t.Errorf("Word(From(%x)) = %x, %v", v, got, ok)
		}
	}
	for _, c := range []struct {
		x    list
		want uint64
		ok   bool
	}{
		{list{7, 0}, 7, true},
		{list{1, 1}, 0, false},
		{nil, 0, true},
		{list{0}, 0, true},
		{list{0, 0}, 0, true},
		{list{m}, m, true},
		{list{0, 1}, 0, false},
		{list{7, 0, 1}, 0, false},
	} {
		if got, ok := nat.Word(c.x); got != c.want || ok != c.ok {
			t.Errorf("Word(%x) = %x, %v, want %x, %v", c.x, got, ok, c.want, c.ok)
		}
	}
}

// P2.2
func TestCmp(t *testing.T) {
	for _, x := range sample.Lists() {
		for _, y := range sample.Lists() {
			if got, want := nat.Cmp(x, y), sample.Number(x).Cmp(sample.Number(y)); got != want {
				t.Errorf("Cmp(%x, %x) = %d, want %d", x, y, got, want)
			}
		}
	}
	x, over := sample.Of(4096, m), sample.With(sample.Of(4096, m), 1)
	if nat.Cmp(over, x) != 1 || nat.Cmp(x, over) != -1 || nat.Cmp(over, sample.With(over, 0)) != 0 {
		t.Errorf("Cmp of lists beyond MaxLimbs: %d, %d", nat.Cmp(over, x), nat.Cmp(x, over))
	}
}

// P2.3
func TestAdd(t *testing.T) {
	for _, c := range []struct{ x, y, want list }{
		{list{m}, list{1}, list{0, 1}},
		{list{m, m}, list{1}, list{0, 0, 1}},
		{list{1}, list{m, m}, list{0, 0, 1}},
		{nil, list{0, 0}, nil},
		{nil, nil, nil},
	} {
		got, e := nat.Add(c.x, c.y)
		is(t, "Add", got, e, c.want, api.OK)
	}
	for _, x := range sample.Lists() {
		for _, y := range sample.Lists() {
			got, e := nat.Add(x, y)
			if e != api.OK || !sample.Is(got, new(big.Int).Add(sample.Number(x), sample.Number(y))) {
				t.Errorf("Add(%x, %x) = %x, %d", x, y, got, e)
			}
		}
	}
}

// P2.3
func TestAddHuge(t *testing.T) {
	x := sample.Of(4096, m)
	got, e := nat.Add(x, list{1})
	huge(t, "Add(x, 1)", got, e)
	got, e = nat.Add(list{1}, x)
	huge(t, "Add(1, x)", got, e)
	got, e = nat.Add(x, x)
	huge(t, "Add(x, x)", got, e)
	got, e = nat.Add(sample.With(x, 1), nil)
	huge(t, "Add(4097 words, 0)", got, e)
	got, e = nat.Add(sample.With(x, 0, 0), list{0, 0})
	fits(t, "Add(x and words 0, 0)", got, e, x)
	got, e = nat.Add(sample.With(list{m - 1}, x[1:]...), list{1})
	fits(t, "Add(x - 1, 1)", got, e, x)
}

// P2.3
func TestSum(t *testing.T) {
	got, e := nat.Sum()
	is(t, "Sum()", got, e, nil, api.OK)
	got, e = nat.Sum(nil, list{0}, nil)
	is(t, "Sum(0, 0, 0)", got, e, nil, api.OK)
	got, e = nat.Sum(list{1}, list{2}, list{m})
	is(t, "Sum(1, 2, m)", got, e, list{2, 1}, api.OK)
	want := new(big.Int)
	for i, x := range sample.Lists() {
		want.Add(want, sample.Number(x))
		if got, e := nat.Sum(sample.Lists()[:i+1]...); e != api.OK || !sample.Is(got, want) {
			t.Errorf("Sum of %d lists = %x, %d", i+1, got, e)
		}
	}
	// More than one carry into the word above all lists.
	got, e = nat.Sum(slices.Repeat([]list{{m, m}}, 1000)...)
	is(t, "Sum of 1000 lists", got, e, list{m - 999, m, 999}, api.OK)
}

// P2.3
func TestSumHuge(t *testing.T) {
	x := sample.Of(4096, m)
	less := sample.With(list{m - 2}, x[1:]...)
	for i, xs := range [][]list{{x, {1}}, {{1}, x}, {less, {1}, {1}, {1}}, {x, x, x}, {nil, sample.With(x, 1)}, {sample.With(sample.Of(5000, 0), 1)}} {
		got, e := nat.Sum(xs...)
		huge(t, "Sum, row "+string(rune('0'+i)), got, e)
	}
	got, e := nat.Sum(less, list{1}, list{1})
	fits(t, "Sum(x - 2, 1, 1)", got, e, x)
	got, e = nat.Sum(sample.With(x, 0), sample.Of(5000, 0))
	fits(t, "Sum(x, 0)", got, e, x)
}

// P2.4
func TestSub(t *testing.T) {
	for _, c := range []struct {
		x, y, want list
		e          api.Errno
	}{
		{list{0, 1}, list{1}, list{m}, 0},
		{list{5}, list{5, 0}, nil, 0},
		{list{5}, list{6}, nil, api.ErrBelow},
		{nil, list{0, 0}, nil, 0},
		{nil, list{0, 1}, nil, api.ErrBelow},
		{list{m, 0}, list{0, 1}, nil, api.ErrBelow},
		{list{0, 0, 1}, list{1}, list{m, m}, 0},
	} {
		got, e := nat.Sub(c.x, c.y)
		is(t, "Sub", got, e, c.want, c.e)
	}
	for _, x := range sample.Lists() {
		for _, y := range sample.Lists() {
			got, e := nat.Sub(x, y)
			want := new(big.Int).Sub(sample.Number(x), sample.Number(y))
			if want.Sign() < 0 {
				is(t, "Sub below zero", got, e, nil, api.ErrBelow)
			} else if e != api.OK || !sample.Is(got, want) {
				t.Errorf("Sub(%x, %x) = %x, %d", x, y, got, e)
			}
		}
	}
}

// P2.4: it is the answer that must not be too long, and below zero comes first.
func TestSubHuge(t *testing.T) {
	x := sample.Of(4096, m)
	over := sample.With(sample.Of(4096, 0), 1)
	got, e := nat.Sub(sample.With(x, 1), list{1})
	huge(t, "Sub(x and a word 1, 1)", got, e)
	got, e = nat.Sub(over, nil)
	huge(t, "Sub(2^262144, 0)", got, e)
	got, e = nat.Sub(over, list{1})
	fits(t, "Sub(2^262144, 1)", got, e, x)
	got, e = nat.Sub(sample.With(x, 1), over)
	fits(t, "Sub of two long ones", got, e, x)
	got, e = nat.Sub(sample.With(over, 7), sample.With(over, 7))
	fits(t, "Sub of a long one and itself", got, e, nil)
	got, e = nat.Sub(over, sample.With(x, 1))
	is(t, "Sub of a long one and a longer", got, e, nil, api.ErrBelow)
	got, e = nat.Sub(sample.With(over, 1), sample.With(over, 2))
	is(t, "Sub of two very long ones", got, e, nil, api.ErrBelow)
}

// P2.5
func TestMul(t *testing.T) {
	for _, c := range []struct{ x, y, want list }{
		{list{m}, list{m}, list{1, m - 1}},
		{list{0, 1}, list{0, 1}, list{0, 0, 1}},
		{nil, list{m}, nil},
		{list{m, m}, list{0, 0}, nil},
		{list{7, 0}, list{6, 0, 0}, list{42}},
		{sample.Of(3, m), sample.Of(3, m), list{1, 0, 0, m - 1, m, m}},
	} {
		got, e := nat.Mul(c.x, c.y)
		is(t, "Mul", got, e, c.want, api.OK)
	}
	for _, x := range sample.Lists() {
		for _, y := range sample.Lists() {
			got, e := nat.Mul(x, y)
			if e != api.OK || !sample.Is(got, new(big.Int).Mul(sample.Number(x), sample.Number(y))) {
				t.Errorf("Mul(%x, %x) = %x, %d", x, y, got, e)
			}
		}
	}
}

// P2.5
func TestMulHuge(t *testing.T) {
	x := sample.Of(4096, m)
	over := sample.With(sample.Of(4096, 0), 1)
	got, e := nat.Mul(x, list{1})
	fits(t, "Mul(x, 1)", got, e, x)
	got, e = nat.Mul(x, list{2})
	huge(t, "Mul(x, 2)", got, e)
	got, e = nat.Mul(list{2}, x)
	huge(t, "Mul(2, x)", got, e)
	got, e = nat.Mul(over, list{1})
	huge(t, "Mul(2^262144, 1)", got, e)
	got, e = nat.Mul(over, list{0, 0})
	fits(t, "Mul(2^262144, 0)", got, e, nil)
	got, e = nat.Mul(nil, over)
	fits(t, "Mul(0, 2^262144)", got, e, nil)
	// Two lists that are far too long must not be worked out.
	got, e = nat.Mul(sample.Of(1<<20, m), sample.Of(1<<20, m))
	huge(t, "Mul of two very long ones", got, e)
}

// P2.5: products of 4096 and 4097 words whose factors have as many bits.
func TestMulAtLimit(t *testing.T) {
	low := sample.With(sample.Of(2047, 0), 1) // 2^131008
	high := sample.With(sample.Of(2048, 0), 1<<62)
	got, e := nat.Mul(low, high)
	fits(t, "Mul(2^131008, 2^131134)", got, e, sample.With(sample.Of(4095, 0), 1<<62))
	got, e = nat.Mul(sample.With(sample.Of(2047, m), 1), sample.With(sample.Of(2047, m), m>>1))
	if want := new(big.Int).Mul(sample.Number(sample.With(sample.Of(2047, m), 1)), sample.Number(sample.With(sample.Of(2047, m), m>>1))); e != api.OK || !sample.Is(got, want) {
		t.Errorf("a product of 4096 words: %d words, %d", len(got), e)
	}
	half := sample.With(sample.Of(2048, 0), 1)  // 2^131072
	below := sample.With(sample.Of(2048, m), 0) // 2^131072 - 1
	got, e = nat.Mul(half, half)
	huge(t, "Mul(2^131072, 2^131072)", got, e)
	got, e = nat.Mul(below, half)
	fits(t, "Mul(2^131072 - 1, 2^131072)", got, e, sample.With(sample.Of(2048, 0), sample.Of(2048, m)...))
	got, e = nat.Mul(sample.With(list{1}, half[1:]...), below)
	fits(t, "Mul(2^131072 + 1, 2^131072 - 1)", got, e, sample.Of(4096, m))
	// As many bits as the two before, but a bit more in the product.
	got, e = nat.Mul(sample.With(sample.Of(2048, m), 1), below)
	huge(t, "Mul(2^131073 - 1, 2^131072 - 1)", got, e)
}

// P2.6
func TestShl(t *testing.T) {
	for _, c := range []struct {
		x    list
		n    int
		want list
		e    api.Errno
	}{
		{list{1}, 64, list{0, 1}, 0},
		{list{3}, 63, list{top, 1}, 0},
		{list{1}, -1, nil, api.ErrShift},
		{nil, -1, nil, api.ErrShift},
		{list{0}, math.MinInt, nil, api.ErrShift},
		{list{1}, 262144, nil, api.ErrHuge},
		{list{1}, math.MaxInt, nil, api.ErrHuge},
		{list{0}, math.MaxInt, nil, 0},
		{nil, 262144, nil, 0},
		{list{5, 0}, 0, list{5}, 0},
		{list{1, 1}, 127, list{0, top, top}, 0},
	} {
		got, e := nat.Shl(c.x, c.n)
		is(t, "Shl", got, e, c.want, c.e)
	}
	for _, x := range sample.Lists() {
		for _, n := range shifts() {
			got, e := nat.Shl(x, n)
			if e != api.OK || !sample.Is(got, new(big.Int).Lsh(sample.Number(x), uint(n))) {
				t.Errorf("Shl(%x, %d) = %x, %d", x, n, got, e)
			}
		}
	}
}

// P2.6
func TestShlHuge(t *testing.T) {
	got, e := nat.Shl(list{1}, 262143)
	fits(t, "Shl(1, 262143)", got, e, sample.With(sample.Of(4095, 0), top))
	got, e = nat.Shl(list{3}, 262142)
	fits(t, "Shl(3, 262142)", got, e, sample.With(sample.Of(4095, 0), top|top>>1))
	got, e = nat.Shl(list{3, 0, 0}, 262143)
	huge(t, "Shl(3, 262143)", got, e)
	x := sample.Of(4096, m)
	got, e = nat.Shl(sample.With(x, 0), 0)
	fits(t, "Shl(x, 0)", got, e, x)
	got, e = nat.Shl(x, 1)
	huge(t, "Shl(x, 1)", got, e)
	got, e = nat.Shl(sample.With(x, 1), 0)
	huge(t, "Shl(4097 words, 0)", got, e)
	got, e = nat.Shl(sample.With(x, 1), math.MaxInt)
	huge(t, "Shl(4097 words, the greatest int)", got, e)
	got, e = nat.Shl(sample.With(x, 1), -1)
	is(t, "Shl(4097 words, -1)", got, e, nil, api.ErrShift)
}

// P2.7
func TestShr(t *testing.T) {
	for _, c := range []struct {
		x    list
		n    int
		want list
		lost bool
		e    api.Errno
	}{
		{list{0, 1}, 64, list{1}, false, 0},
		{list{1, 1}, 64, list{1}, true, 0},
		{list{1, 1}, 1, list{top}, true, 0},
		{list{6}, 1, list{3}, false, 0},
		{list{6}, 1000, nil, true, 0},
		{nil, 5, nil, false, 0},
		{list{6}, math.MaxInt, nil, true, 0},
		{list{0, 0}, math.MaxInt, nil, false, 0},
		{list{6}, -1, nil, false, api.ErrShift},
		{nil, math.MinInt, nil, false, api.ErrShift},
		{list{6, 0}, 3, nil, true, 0},
		{list{0, 6, 0}, 66, list{1}, true, 0},
	} {
		got, lost, e := nat.Shr(c.x, c.n)
		is(t, "Shr", got, e, c.want, c.e)
		if lost != c.lost {
			t.Errorf("Shr(%x, %d): lost %v", c.x, c.n, lost)
		}
	}
	for _, x := range sample.Lists() {
		for _, n := range shifts() {
			got, lost, e := nat.Shr(x, n)
			want := new(big.Int).Rsh(sample.Number(x), uint(n))
			cut := new(big.Int).Lsh(want, uint(n)).Cmp(sample.Number(x)) != 0
			if e != api.OK || lost != cut || !sample.Is(got, want) {
				t.Errorf("Shr(%x, %d) = %x, %v, %d", x, n, got, lost, e)
			}
		}
	}
}

// P2.7
func TestShrHuge(t *testing.T) {
	x := sample.With(sample.Of(5000, m), 1, 0)
	for _, n := range []int{0, 1, 320000 - 262144} {
		got, lost, e := nat.Shr(x, n)
		huge(t, "Shr of 5001 words", got, e)
		if lost {
			t.Errorf("Shr of 5001 words by %d: lost beside an error", n)
		}
	}
	got, lost, e := nat.Shr(x, 320001-262144)
	want := sample.Of(4096, m)
	fits(t, "Shr to 4096 words", got, e, want)
	if !lost {
		t.Errorf("Shr to 4096 words: nothing lost")
	}
	got, lost, e = nat.Shr(sample.With(sample.Of(4096, 0), 1), 1)
	fits(t, "Shr(2^262144, 1)", got, e, sample.With(sample.Of(4095, 0), top))
	if lost {
		t.Errorf("Shr(2^262144, 1): lost")
	}
	got, lost, e = nat.Shr(x, math.MaxInt)
	fits(t, "Shr of 5001 words by the greatest int", got, e, nil)
	if !lost {
		t.Errorf("Shr of 5001 words by the greatest int: nothing lost")
	}
}

// P2.8
func TestBits(t *testing.T) {
	for _, c := range []struct {
		x           list
		bits, zeros int
	}{
		{nil, 0, 0},
		{list{0}, 0, 0},
		{list{0, 0}, 0, 0},
		{list{1}, 1, 0},
		{list{0, 1}, 65, 64},
		{list{0, 1, 0}, 65, 64},
		{list{0, 8}, 68, 67},
		{list{top}, 64, 63},
		{sample.With(sample.Of(4096, 0), 1), 262145, 262144},
		{sample.With(sample.Of(5000, m), 0), 320000, 0},
	} {
		if bits, zeros := nat.Bits(c.x), nat.Zeros(c.x); bits != c.bits || zeros != c.zeros {
			t.Errorf("%d words: %d bits, %d zeros, want %d, %d", len(c.x), bits, zeros, c.bits, c.zeros)
		}
	}
	for _, x := range sample.Lists() {
		n := sample.Number(x)
		if bits, zeros := nat.Bits(x), nat.Zeros(x); bits != n.BitLen() || zeros != int(n.TrailingZeroBits()) {
			t.Errorf("%x: %d bits, %d zeros", x, bits, zeros)
		}
	}
}

// P2.8
func TestBit(t *testing.T) {
	for _, x := range sample.Lists() {
		n := sample.Number(x)
		for i := range 64*len(x) + 130 {
			if got := nat.Bit(x, i); got != int(n.Bit(i)) {
				t.Errorf("Bit(%x, %d) = %d", x, i, got)
			}
		}
		for _, i := range []int{-1, -64, math.MinInt, math.MaxInt} {
			if got := nat.Bit(x, i); got != 0 {
				t.Errorf("Bit(%x, %d) = %d", x, i, got)
			}
		}
	}
	if long := sample.With(sample.Of(4097, 0), 2); nat.Bit(long, 4097*64+1) != 1 || nat.Bit(long, 4097*64) != 0 {
		t.Errorf("bits of a long list")
	}
}
