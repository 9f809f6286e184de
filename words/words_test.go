package words_test

import (
	"math"
	"math/big"
	"slices"
	"testing"

	"plumb/sample"
	"plumb/words"
)

type list = []uint64

// factors are words at which a carry would show.
func factors() list {
	return list{0, 1, 2, 1 << 63, math.MaxUint64 - 1, math.MaxUint64}
}

// whole is the number of a list with a word above it.
func whole(x list, above uint64) *big.Int {
	return sample.Number(sample.With(x, above))
}

// times is x * w.
func times(x list, w uint64) *big.Int {
	return new(big.Int).Mul(sample.Number(x), new(big.Int).SetUint64(w))
}

// Shifts to new lists, of any length.
func TestUpAndDown(t *testing.T) {
	for _, x := range append(sample.Lists(), sample.Of(5000, math.MaxUint64)) {
		for _, n := range []int{0, 1, 63, 64, 65, 127, 128, 1000} {
			if got := words.Up(x, n); !sample.Is(got, new(big.Int).Lsh(sample.Number(x), uint(n))) {
				t.Errorf("Up(%x, %d) = %x", x, n, got)
			}
			if got := words.Down(x, n); !sample.Is(got, new(big.Int).Rsh(sample.Number(x), uint(n))) {
				t.Errorf("Down(%x, %d) = %x", x, n, got)
			}
		}
	}
}

// A sum in place, and what is carried out of it; taking away what was added.
func TestAddToAndTakeFrom(t *testing.T) {
	for _, x := range sample.Lists() {
		for _, y := range sample.Lists() {
			if len(y) > len(x) {
				continue
			}
			total := slices.Clone(x)
			carry := words.AddTo(total, y)
			if whole(total, carry).Cmp(new(big.Int).Add(sample.Number(x), sample.Number(y))) != 0 {
				t.Errorf("AddTo(%x, %x) = %x, %d", x, y, total, carry)
			}
			if carry != 0 {
				continue
			}
			words.TakeFrom(total, y)
			if !slices.Equal(total, x) {
				t.Errorf("TakeFrom(%x + %x, %x) = %x", x, y, y, total)
			}
		}
	}
}

// Products added and taken away in place, with the word that goes out or comes in.
func TestAddTimesAndTakeTimes(t *testing.T) {
	for _, x := range sample.Lists() {
		for _, y := range sample.Lists() {
			if len(y) != len(x) {
				continue
			}
			for _, w := range factors() {
				total := slices.Clone(x)
				carry := words.AddTimes(total, y, w)
				if whole(total, carry).Cmp(new(big.Int).Add(sample.Number(x), times(y, w))) != 0 {
					t.Errorf("AddTimes(%x, %x, %x) = %x, %x", x, y, w, total, carry)
				}
				rest := slices.Clone(x)
				borrow := words.TakeTimes(rest, y, w)
				if new(big.Int).Add(sample.Number(rest), times(y, w)).Cmp(whole(x, borrow)) != 0 {
					t.Errorf("TakeTimes(%x, %x, %x) = %x, %x", x, y, w, rest, borrow)
				}
			}
		}
	}
}

// A product with a word, and a word added, in place, with the word that goes out.
func TestTimes(t *testing.T) {
	for _, x := range sample.Lists() {
		for _, w := range factors() {
			for _, on := range factors() {
				total := slices.Clone(x)
				carry := words.Times(total, w, on)
				if whole(total, carry).Cmp(new(big.Int).Add(sample.Number(list{on}), times(x, w))) != 0 {
					t.Errorf("Times(%x, %x, %x) = %x, %x", x, w, on, total, carry)
				}
			}
		}
	}
}

// Trim gives the same memory, Up and Down new one.
func TestMemory(t *testing.T) {
	calls := func(in []list) []list {
		return []list{words.Up(in[0], 0), words.Up(in[0], 65), words.Down(in[0], 0), words.Down(in[0], 65)}
	}
	for _, x := range sample.Lists() {
		if fault := sample.Memory(calls, x); fault != "" {
			t.Fatalf("of %x: %s", x, fault)
		}
	}
	if x := (list{1, 2, 0, 0}); !slices.Equal(words.Trim(x), list{1, 2}) || &words.Trim(x)[0] != &x[0] {
		t.Errorf("Trim(%x) = %x", x, words.Trim(x))
	}
}
