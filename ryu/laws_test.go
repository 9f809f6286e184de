package ryu_test

import (
	"math"
	"math/big"
	"strconv"
	"sync"
	"testing"

	"plumb/api"
	"plumb/near"
	"plumb/ryu"
	"plumb/sample"
)

// value gives the exact number of a finite pattern.
func value(b uint64) *big.Rat {
	return new(big.Rat).SetFloat64(math.Float64frombits(b))
}

// ends gives the ends of a pattern's interval, by the steps between the patterns around it.
func ends(b uint64) (*big.Rat, *big.Rat) {
	size := b &^ minus
	step := two(max(int(size>>52), 1) - 1076)
	down := step
	if size<<12 == 0 && size>>52 > 1 {
		down = new(big.Rat).Quo(step, big.NewRat(2, 1))
	}
	return new(big.Rat).Sub(value(size), down), new(big.Rat).Add(value(size), step)
}

// ten gives ten to the n.
func ten(n int) *big.Rat {
	out := new(big.Rat).SetInt(new(big.Int).Exp(big.NewInt(10), big.NewInt(int64(max(n, -n))), nil))
	if n < 0 {
		out.Inv(out)
	}
	return out
}

// parts gives how many times a number holds the part of 1 in which every pattern, the middles and the decimals up to 17
// digits are whole.
func parts(q *big.Rat) *big.Int {
	out := new(big.Int).Mul(q.Num(), ten(-leastTen).Num())
	return out.Lsh(out, 1076).Quo(out, q.Denom())
}

// leastTen and mostTen are the powers of ten that a decimal may count.
const leastTen, mostTen = -345, 311

// units gives the powers of ten in such parts, from the least.
func units() []*big.Int {
	var out []*big.Int
	for e := leastTen; e <= mostTen; e++ {
		out = append(out, parts(ten(e)))
	}
	return out
}

// shortest gives the shortest decimal of a pattern that isn't 0 as the chapter defines it: of all decimals with one digit
// those in the interval, else of those with two, and so on; of these the nearest, of two as near the even one.
func shortest(b uint64, units []*big.Int) (uint64, int) {
	from, to := ends(b)
	low, size, high := parts(from), parts(value(b&^minus)), parts(to)
	top := len(size.Text(10)) - len(units[-leastTen].Text(10))
	for n := 1; ; n++ {
		var best, off *big.Int
		at := 0
		for e := top - n - 1; e <= top-n+2; e++ {
			unit := units[e-leastTen]
			for _, d := range around(size, unit, n) {
				q := new(big.Int).Mul(d, unit)
				c, f := low.Cmp(q), q.Cmp(high)
				if c > 0 || f > 0 || b%2 != 0 && (c == 0 || f == 0) {
					continue
				}
				far := q.Sub(q, size)
				far.Abs(far)
				if best == nil || far.Cmp(off) < 0 || far.Cmp(off) == 0 && d.Bit(0) == 0 {
					best, at, off = d, e, far
				}
			}
		}
		if best != nil {
			return best.Uint64(), at
		}
	}
}

// around gives the whole numbers of n digits that lie next to size by unit, on either side.
func around(size *big.Int, unit *big.Int, n int) []*big.Int {
	below := new(big.Int).Quo(size, unit)
	least, over := ten(n-1).Num(), ten(n).Num()
	var out []*big.Int
	for _, d := range []*big.Int{below, new(big.Int).Add(below, big.NewInt(1)), least, new(big.Int).Sub(over, big.NewInt(1))} {
		if d.Cmp(least) >= 0 && d.Cmp(over) < 0 {
			out = append(out, d)
		}
	}
	return out
}

// P12.1: the definition, of every kind of pattern.
func TestShortestIsTheDefinition(t *testing.T) {
	units := units()
	for _, b := range sample.Patterns() {
		want, exp := uint64(0), 0
		if b&^minus != 0 {
			want, exp = shortest(b, units)
		}
		if d, e, bad := ryu.Shortest(b); d != want || e != exp || bad != api.OK {
			t.Errorf("Shortest(%x) = %d, %d, %d, want %d, %d", b, d, e, bad, want, exp)
		}
	}
}

// P12.1 and P12.3: no 0 at the end, at most 17 digits, between the ends, and read back as the pattern's size.
func TestShortestIsReadBack(t *testing.T) {
	for _, b := range sample.Patterns() {
		size := b &^ minus
		if size == 0 {
			continue
		}
		d, e, _ := ryu.Shortest(b)
		low, high, in, _ := ryu.Interval(b)
		q := new(big.Rat).Mul(new(big.Rat).SetInt(new(big.Int).SetUint64(d)), ten(e))
		c, f := number(low).Cmp(q), q.Cmp(number(high))
		if c > 0 || f > 0 || !in && (c == 0 || f == 0) {
			t.Errorf("Shortest(%x) = %d, %d, which doesn't lie in the interval", b, d, e)
		}
		text := strconv.FormatUint(d, 10)
		back, err := strconv.ParseFloat(text+"e"+strconv.Itoa(e), 64)
		if err != nil || math.Float64bits(back) != size || d%10 == 0 || len(text) > 17 {
			t.Errorf("Shortest(%x) = %d, %d, which is read as %v, %v", b, d, e, back, err)
		}
	}
}

// P12.3: numbers in an interval are taken to the pattern, just outside they are not; and at its ends as is told.
func TestIntervalIsTaken(t *testing.T) {
	for _, b := range sample.Patterns() {
		size := b &^ minus
		low, high, in, _ := ryu.Interval(b)
		for _, end := range []api.Rat{low, high} {
			got, bad := near.Rat(end, api.Even)
			if taken := bad == api.OK && got&^minus == size; taken != in {
				t.Errorf("Interval(%x): an end %.60v is taken to %x, %d", b, end, got, bad)
			}
		}
		width := new(big.Rat).Sub(number(high), number(low))
		hair := width.Quo(width, big.NewRat(1<<40, 1))
		for _, c := range []struct {
			at *big.Rat
			in bool
		}{
			{new(big.Rat).Add(number(low), hair), true},
			{new(big.Rat).Sub(number(low), hair), false},
			{new(big.Rat).Sub(number(high), hair), true},
			{new(big.Rat).Add(number(high), hair), false},
		} {
			f, _ := c.at.Float64()
			if taken := math.Float64bits(math.Abs(f)) == size; taken != c.in {
				t.Errorf("Interval(%x): %v is taken: %v", b, f, taken)
			}
		}
	}
}

// P12.3: rounded to 17 digits each number is taken back, so none needs more; neighbours have unlike answers.
func TestSeventeenDigits(t *testing.T) {
	for _, b := range sample.Patterns() {
		size := b &^ minus
		text := strconv.FormatFloat(math.Float64frombits(size), 'e', 16, 64)
		if f, err := strconv.ParseFloat(text, 64); err != nil || math.Float64bits(f) != size {
			t.Errorf("%x with 17 digits, %s, is read as %v", b, text, f)
		}
		if size+1 == 0x7ff0000000000000 {
			continue
		}
		d, e, _ := ryu.Shortest(b)
		if next, exp, bad := ryu.Shortest(size + 1); bad != api.OK || next == d && exp == e {
			t.Errorf("Shortest(%x) and Shortest(%x) are %d, %d, both", b, size+1, d, e)
		}
	}
}

// P12.4: the same answers again, in another order, and from many callers at once.
func TestNothingIsKept(t *testing.T) {
	list := sample.Patterns()[:3000]
	type answer struct {
		d   uint64
		e   int
		bad api.Errno
	}
	want := make([]answer, len(list))
	for i, b := range list {
		d, e, bad := ryu.Shortest(b)
		want[i] = answer{d, e, bad}
	}
	var all sync.WaitGroup
	for from := range 4 {
		all.Go(func() {
			for i := len(list) - 1 - from; i >= 0; i -= 4 {
				d, e, bad := ryu.Shortest(list[i])
				if (answer{d, e, bad}) != want[i] {
					t.Errorf("Shortest(%x) is %d, %d, %d the second time", list[i], d, e, bad)
				}
			}
		})
	}
	all.Wait()
}
