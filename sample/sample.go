// Package sample: what the tests of several layers share: lists of words and patterns that are telling, exact numbers by
// another road, and whether calls keep their hands off other memory. The program itself does not use it.
package sample

import (
	"math"
	"math/big"
	"slices"
	"strconv"

	"plumb/api"
)

// Test is what is asked of a test here.
type Test interface {
	Helper()
	Fatalf(format string, args ...any)
}

// Must gives a call's answer, which must not be refused.
func Must(t Test) func(x []uint64, e api.Errno) []uint64 {
	return func(x []uint64, e api.Errno) []uint64 {
		t.Helper()
		if e != api.OK {
			t.Fatalf("refused: %d", e)
		}
		return x
	}
}

// Of gives so many words, each w.
func Of(n int, w uint64) []uint64 {
	return slices.Repeat([]uint64{w}, n)
}

// With gives the words of x and more behind them, in memory of their own.
func With(x []uint64, more ...uint64) []uint64 {
	return slices.Concat(x, more)
}

// Lists are lists at which a carry, a length or a word 0 would show, and lists of up to 11 words from a fixed rule.
func Lists() [][]uint64 {
	const m, top = math.MaxUint64, 1 << 63
	out := [][]uint64{
		nil, {0}, {0, 0}, {1}, {1, 0}, {2}, {3}, {5, 0, 0}, {m}, {m, 0}, {m - 1}, {top}, {top - 1}, {top + 1},
		{0, 1}, {0, 1, 0}, {1, 1}, {m, m}, {m, 1}, {0, m}, {0, top}, {top, top}, {1, 2}, {2, 1},
		{0, 0, 1}, {m, m, m}, {1, 0, m}, {0, 0, 0, 8}, {m, 0, 0, m, 0, 0},
	}
	rule := Rule(0x9e3779b97f4a7c15)
	for n := range 12 {
		l := make([]uint64, n)
		for i := range l {
			w := rule.Next()
			l[i] = w >> (w % 5 * 8)
		}
		out = append(out, l)
	}
	return out
}

// Rule is a row of words that looks like one of chance, and is the same each time; its start isn't 0.
type Rule uint64

// Next gives the row's next word.
func (r *Rule) Next() uint64 {
	x := uint64(*r)
	x ^= x << 13
	x ^= x >> 7
	x ^= x << 17
	*r = Rule(x)
	return x
}

// Below gives a number from 0 on below n.
func (r *Rule) Below(n int) int {
	return int(r.Next() >> 16 % uint64(n))
}

// List gives so many words of the row: now any words, now such as are 0 or have all bits 1 here and there.
func (r *Rule) List(n int) []uint64 {
	out := make([]uint64, n)
	plain := r.Below(2) == 0
	for i := range out {
		out[i] = r.Next()
		if plain {
			continue
		}
		switch r.Below(4) {
		case 0:
			out[i] = 0
		case 1:
			out[i] = math.MaxUint64
		case 2:
			out[i] >>= r.Below(64)
		}
	}
	return out
}

// Patterns are finite patterns at which digits, intervals or steps would show a fault: every power of two with its
// neighbours, the small subnormals, decimals of few digits with their neighbours, such as lie next to ties, and others by
// a fixed rule; some with a minus.
func Patterns() []uint64 {
	const minus = 1 << 63
	var out []uint64
	for e := range uint64(2047) {
		out = append(out, e<<52, e<<52+1, e<<52+2, (e+1)<<52-1, (e+1)<<52-2)
	}
	for b := range uint64(200) {
		out = append(out, b, 0x4310000000000000+b, 0x4340000000000000-b, 0x4340000000000000+b)
	}
	for e := -323; e <= 308; e++ {
		for _, d := range []string{"1", "3", "9", "25", "123456789"} {
			f, err := strconv.ParseFloat(d+"e"+strconv.Itoa(e-len(d)+1), 64)
			if err == nil {
				b := math.Float64bits(f)
				out = append(out, max(b, 1)-1, b|minus, b+1)
			}
		}
	}
	rule := Rule(0x9e3779b97f4a7c15)
	for range 4000 {
		if b := rule.Next(); b>>52&2047 != 2047 {
			out = append(out, b, b>>rule.Below(64))
		}
	}
	return out
}

// Number is the number of a list.
func Number(x []uint64) *big.Int {
	out := new(big.Int)
	for _, w := range slices.Backward(x) {
		out.Lsh(out, 64)
		out.Or(out, new(big.Int).SetUint64(w))
	}
	return out
}

// Words is a number as a normal list.
func Words(x *big.Int) []uint64 {
	var out []uint64
	low := new(big.Int).SetUint64(math.MaxUint64)
	for rest := new(big.Int).Set(x); rest.Sign() != 0; rest.Rsh(rest, 64) {
		out = append(out, new(big.Int).And(rest, low).Uint64())
	}
	return out
}

// Is tells whether a list is that number, in its normal form.
func Is(got []uint64, want *big.Int) bool {
	return slices.Equal(got, Words(want))
}

// Spoil writes over a list and its spare room.
func Spoil(x []uint64) {
	whole := x[:cap(x)]
	for i := range whole {
		whole[i] = 0xdead
	}
}

// Memory hands lists, with spare room behind them, to calls that answer lists, writes over these answers, and asks
// again. It tells what is wrong, or nothing: what is handed in must stay as it is with its spare room, and what is done
// to an answer must be seen in no other and in no later one.
func Memory(calls func(in [][]uint64) [][]uint64, in ...[]uint64) string {
	const mark = 0x1234
	var lists, rooms, before [][]uint64
	for _, x := range in {
		room := With(x, mark, mark)
		rooms = append(rooms, room)
		lists = append(lists, room[:len(x)])
		before = append(before, slices.Clone(room))
	}
	got := calls(lists)
	want := clone(got)
	for i, x := range got {
		Spoil(x)
		if j := differ(got[i+1:], want[i+1:]); j >= 0 {
			return "answers " + strconv.Itoa(i) + " and " + strconv.Itoa(i+1+j) + " share memory"
		}
	}
	if i := differ(rooms, before); i >= 0 {
		return "list " + strconv.Itoa(i) + " of those handed in is changed"
	}
	if i := differ(calls(lists), want); i >= 0 {
		return "answer " + strconv.Itoa(i) + " is another the second time"
	}
	return ""
}

// clone gives the lists in memory of their own.
func clone(xs [][]uint64) [][]uint64 {
	var out [][]uint64
	for _, x := range xs {
		out = append(out, slices.Clone(x))
	}
	return out
}

// differ gives the first place at which the lists aren't the same; -1: none.
func differ(xs [][]uint64, ys [][]uint64) int {
	for i := range xs {
		if !slices.Equal(xs[i], ys[i]) {
			return i
		}
	}
	return -1
}
