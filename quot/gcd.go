package quot

import (
	"plumb/nat"
	"plumb/wide"
	"plumb/words"
)

// Gcd gives the greatest common divisor (of 0 and 0: 0).
func Gcd(x []uint64, y []uint64) []uint64 {
	x, y = words.Trim(x), words.Trim(y)
	if len(x) == 0 {
		return nat.Norm(y)
	}
	if len(y) == 0 {
		return nat.Norm(x)
	}
	// Powers of two are told by the low ends; most denominators of the layers above are such, and need no more than that.
	twosX, twosY := nat.Zeros(x), nat.Zeros(y)
	if twosX == nat.Bits(x)-1 || twosY == nat.Bits(y)-1 {
		return words.Up([]uint64{1}, min(twosX, twosY))
	}
	a, b := words.Down(x, twosX), words.Down(y, twosY)
	if nat.Cmp(a, b) < 0 {
		a, b = b, a
	}
	return words.Up(euclid(a, b), min(twosX, twosY))
}

// Lowest gives two numbers divided by their greatest common divisor.
func Lowest(x []uint64, y []uint64) ([]uint64, []uint64) {
	g := Gcd(x, y)
	if twos := nat.Zeros(g); twos == nat.Bits(g)-1 {
		// A power of two, as nearly always in the layers above, is divided by in one go.
		return words.Down(x, twos), words.Down(y, twos)
	}
	// Both quotients are whole; of zero and zero, which can't be divided, they are empty, as they should be.
	a, _, _ := DivMod(x, g)
	b, _, _ := DivMod(y, g)
	return a, b
}

// euclid gives the greatest common divisor of a and b, both normal, where a isn't the lesser; the answer may be a itself.
// Steps of the plain algorithm are done many at a time, as far as the highest words tell them (Lehmer).
func euclid(a []uint64, b []uint64) []uint64 {
	for len(b) > 1 {
		if c := foresee(a, b); c.steps > 0 {
			a, b = c.run(a, b)
			continue
		}
		_, rest, _ := DivMod(a, b)
		a, b = b, rest
	}
	d, _ := nat.Word(b)
	switch d {
	case 0:
		return a
	case 1:
		return nat.From(1)
	}
	_, rest, _ := Small(a, d)
	return nat.From(gcdWords(d, rest))
}

// gcdWords gives the greatest common divisor of two words.
func gcdWords(a uint64, b uint64) uint64 {
	for b != 0 {
		a, b = b, a%b
	}
	return a
}

// course is what so many steps of Euclid's algorithm come to: of a and b they make ua*a - ub*b and vb*b - va*a,
// or, if their number is odd, ub*b - ua*a and va*a - vb*b.
type course struct {
	steps          int
	ua, ub, va, vb uint64
}

// foresee gives the course of those steps that the highest 64 bits of a, and the bits of b beside them, tell for sure.
// Both are normal, of two words or more, and a isn't the lesser.
func foresee(a []uint64, b []uint64) course {
	n := len(a)
	shift := words.Bits - wide.Len(a[n-1])
	x, _ := wide.Shl(a[n-1], a[n-2], shift)
	y, _ := wide.Shl(wordAt(b, n-1), wordAt(b, n-2), shift)
	c := course{ua: 1, vb: 1}
	for y != 0 {
		q := x / y
		x, y = y, x%y
		// No factor leaves a word: it is at most the first x by the last but one y.
		next := course{c.steps + 1, c.va, c.vb, c.ua + q*c.va, c.ub + q*c.vb}
		// Collins' condition: the bits left out move x and y by less than ub and vb, so that the rest is one of the
		// whole numbers, too. The sum is asked only where it is a word.
		if y < next.vb || x-y < next.vb+next.ub {
			break
		}
		c = next
	}
	return c
}

// wordAt gives a word of x; beyond its end 0.
func wordAt(x []uint64, i int) uint64 {
	if i < len(x) {
		return x[i]
	}
	return 0
}

// run gives what a and b become by the course.
func (c course) run(a []uint64, b []uint64) ([]uint64, []uint64) {
	if c.steps%2 == 1 {
		return difference(b, c.ub, a, c.ua), difference(a, c.va, b, c.vb)
	}
	return difference(a, c.ua, b, c.ub), difference(b, c.vb, a, c.va)
}

// difference gives x*p - y*q, which is at least 0.
func difference(x []uint64, p uint64, y []uint64, q uint64) []uint64 {
	out := make([]uint64, max(len(x), len(y))+1)
	out[len(x)] = words.AddTimes(out, x, p)
	borrow := words.TakeTimes(out, y, q)
	words.TakeFrom(out[len(y):], []uint64{borrow})
	return words.Trim(out)
}
