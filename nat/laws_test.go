package nat_test

import (
	"slices"
	"testing"

	"plumb/api"
	"plumb/nat"
	"plumb/sample"
)

// P2.10: sums and products in any order, and put together as one likes.
func TestAnyOrder(t *testing.T) {
	all := sample.Lists()
	must := sample.Must(t)
	for i, x := range all {
		for j, y := range all {
			z := all[(i*7+j*3)%len(all)]
			sum, product := must(nat.Add(x, y)), must(nat.Mul(x, y))
			for _, pair := range [][2]list{
				{sum, must(nat.Add(y, x))},
				{product, must(nat.Mul(y, x))},
				{must(nat.Add(sum, z)), must(nat.Add(x, must(nat.Add(y, z))))},
				{must(nat.Mul(product, z)), must(nat.Mul(x, must(nat.Mul(y, z))))},
				{must(nat.Mul(sum, z)), must(nat.Add(must(nat.Mul(x, z)), must(nat.Mul(y, z))))},
				{must(nat.Add(sum, z)), must(nat.Sum(z, y, x))},
				{must(nat.Sub(sum, y)), nat.Norm(x)},
			} {
				if !slices.Equal(pair[0], pair[1]) {
					t.Errorf("of %x, %x, %x: %x and %x", x, y, z, pair[0], pair[1])
				}
			}
		}
	}
}

// P2.10: Shr takes back Shl, and Shl is a product by a power of two.
func TestShiftsTakeBack(t *testing.T) {
	must := sample.Must(t)
	for _, x := range sample.Lists() {
		for _, n := range shifts() {
			up := must(nat.Shl(x, n))
			back, lost, e := nat.Shr(up, n)
			if e != api.OK || lost || !slices.Equal(back, nat.Norm(x)) {
				t.Errorf("Shl(%x, %d) = %x, but Shr gives %x, %v, %d", x, n, up, back, lost, e)
			}
			if by := must(nat.Mul(x, must(nat.Shl(list{1}, n)))); !slices.Equal(up, by) {
				t.Errorf("Shl(%x, %d) = %x, but the product is %x", x, n, up, by)
			}
		}
	}
}

// P2.10: Cmp tells just whether Sub is below, 0, or above.
func TestCmpTellsSub(t *testing.T) {
	for _, x := range sample.Lists() {
		for _, y := range sample.Lists() {
			rest, e := nat.Sub(x, y)
			want := 0
			if e == api.ErrBelow {
				want = -1
			} else if len(rest) != 0 {
				want = 1
			}
			if got := nat.Cmp(x, y); got != want {
				t.Errorf("Cmp(%x, %x) = %d, but Sub gives %x, %d", x, y, got, rest, e)
			}
		}
	}
}

// answers are all lists that calls answer for these arguments.
func answers(x, y list, n int) []list {
	out := []list{nat.Norm(x), nat.From(uint64(n))}
	for _, f := range []func(list, list) (list, api.Errno){nat.Add, nat.Sub, nat.Mul} {
		l, _ := f(x, y)
		out = append(out, l)
	}
	up, _ := nat.Shl(x, n)
	down, _, _ := nat.Shr(x, n)
	one, _ := nat.Sum(x)
	three, _ := nat.Sum(x, y, x)
	return append(out, up, down, one, three)
}

// P2.9, P0.1, P0.2: what is handed in stays as it is with its spare room, and what is done to an answer is seen nowhere else.
func TestMemory(t *testing.T) {
	for _, x := range sample.Lists() {
		for _, y := range sample.Lists() {
			for _, n := range []int{0, 1, 64, 65} {
				calls := func(in []list) []list { return answers(in[0], in[1], n) }
				if fault := sample.Memory(calls, x, y); fault != "" {
					t.Fatalf("of %x, %x, %d: %s", x, y, n, fault)
				}
			}
		}
	}
}

// P2.9: one list handed in twice.
func TestOneListTwice(t *testing.T) {
	for _, first := range sample.Lists() {
		x := slices.Clone(first)
		for i, l := range answers(x, x, 3) {
			if want := answers(slices.Clone(first), slices.Clone(first), 3)[i]; !slices.Equal(l, want) {
				t.Errorf("of %x twice: %x, of two like it %x", first, l, want)
			}
			sample.Spoil(l)
		}
		if !slices.Equal(x, first) {
			t.Errorf("handed in twice, %x is now %x", first, x)
		}
	}
}
