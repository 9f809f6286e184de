package quot

import (
	"plumb/nat"
	"plumb/words"
)

// Root gives the greatest number whose square is not above x, and whether it is just x.
func Root(x []uint64) ([]uint64, bool) {
	bits := nat.Bits(x)
	if bits == 0 {
		return nil, true
	}
	// Newton's steps from above come down as far as the root, and no farther.
	s := above(x, bits)
	for {
		q, r, _ := DivMod(x, s)
		if nat.Cmp(q, s) >= 0 {
			return s, len(r) == 0 && nat.Cmp(q, s) == 0
		}
		s = words.Down(plus(s, q), 1)
	}
}

// above gives a number above the root of x, which has so many bits, and near it: by the root of the higher half of its
// bits, so that a step or two are left.
func above(x []uint64, bits int) []uint64 {
	if bits <= words.Bits {
		return words.Up(nat.From(1), (bits+1)/2)
	}
	quarter := bits / 4
	s, _ := Root(words.Down(x, 2*quarter))
	return words.Up(plus(s, nat.From(1)), quarter)
}

// plus gives the sum, however long; x isn't the shorter.
func plus(x []uint64, y []uint64) []uint64 {
	out := make([]uint64, len(x)+1)
	copy(out, x)
	words.AddTo(out, y)
	return words.Trim(out)
}
