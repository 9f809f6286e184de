package ryu

import (
	"math/big"
	"testing"

	"plumb/sample"
)

const (
	leastTwos = -1074 - 2
	mostTwos  = 971 - 2
	mostCount = 4*(1<<53-1) + 2
)

// to gives base to the n.
func to(base int64, n int) *big.Rat {
	out := new(big.Rat).SetInt(new(big.Int).Exp(big.NewInt(base), big.NewInt(int64(max(n, -n))), nil))
	if n < 0 {
		out.Inv(out)
	}
	return out
}

// record is a count, and how far its number lies from the next whole one on one side.
type record struct {
	count, off *big.Int
}

// nearer gives the record that comes of r by adding other's count so often as it brings it nearer to a whole number but
// not onto it, and no count grows above most; false: not once.
func nearer(r record, other record, most *big.Int) (record, bool) {
	times := new(big.Int).Sub(r.off, big.NewInt(1))
	times.Quo(times, other.off)
	room := new(big.Int).Sub(most, r.count)
	if room.Quo(room, other.count); room.Cmp(times) < 0 {
		times = room
	}
	return record{
		new(big.Int).Add(r.count, new(big.Int).Mul(times, other.count)),
		new(big.Int).Sub(r.off, new(big.Int).Mul(times, other.off)),
	}, times.Sign() > 0
}

// leastGap gives the least distance of a count's number from the next greater whole one, of all counts up to most whose
// numbers aren't whole, if each counts q: by the steps of Euclid's algorithm, as the records on both sides come about.
func leastGap(q *big.Rat, most *big.Int) *big.Rat {
	first := new(big.Int).Mod(q.Num(), q.Denom())
	if first.Sign() == 0 {
		return big.NewRat(1, 1)
	}
	above := record{big.NewInt(1), first}
	below := record{big.NewInt(1), new(big.Int).Sub(q.Denom(), first)}
	for more := true; more; {
		if above.off.Cmp(below.off) < 0 {
			below, more = nearer(below, above, most)
		} else {
			above, more = nearer(above, below, most)
		}
	}
	return new(big.Rat).SetFrac(below.off, q.Denom())
}

// P12.1: in every scale, and of every count: what the power of five is too great by never reaches the next whole number.
func TestFloorIsExact(t *testing.T) {
	most := big.NewInt(mostCount)
	for twos := leastTwos; twos <= mostTwos; twos++ {
		s := scaleOf(twos)
		q := new(big.Rat).Mul(to(2, twos), to(10, -s.tens))
		if q.Cmp(big.NewRat(10, 1)) < 0 || q.Cmp(big.NewRat(100, 1)) >= 0 || s.down < 121 || s.down > 124 {
			t.Errorf("scaleOf(%d): %v", twos, s)
		}
		used := new(big.Rat).Mul(new(big.Rat).SetInt(sample.Number([]uint64{s.lo, s.hi})), to(2, -s.down))
		over := used.Sub(used, q)
		if over.Sign() < 0 {
			t.Errorf("scaleOf(%d): %v is too small", twos, s)
		}
		if over.Mul(over, new(big.Rat).SetInt(most)).Cmp(leastGap(q, most)) >= 0 {
			t.Errorf("scaleOf(%d): %v is too great", twos, s)
		}
	}
}

// P12.3: how far an interval reaches down, of the least and greatest mantissas and exponents. (The answer for the least
// normal number is the same if its interval is taken too short: so it is held here, from inside.)
func TestReachDown(t *testing.T) {
	for _, c := range []struct {
		mant uint64
		exp  int
		want uint64
	}{
		{1 << 52, 971, 1}, {1 << 52, 0, 1}, {1 << 52, -1073, 1}, {1 << 52, -1074, 2},
		{1<<52 + 1, 971, 2}, {1<<53 - 1, -1073, 2}, {1<<53 - 1, -1074, 2}, {1, -1074, 2}, {1 << 51, -1074, 2},
	} {
		if got := reachDown(c.mant, c.exp); got != c.want {
			t.Errorf("reachDown(%d, %d) = %d", c.mant, c.exp, got)
		}
	}
}

// P12.1: floor, whole, least and greatest in every scale, by the definition; counts with many twos and fives among them.
func TestScaleIsTheDefinition(t *testing.T) {
	fives := uint64(1)
	counts := []uint64{1, 2, 3, 4, 6, 10, 1 << 53, 1 << 54, 1<<54 - 1, 1<<54 - 2, mostCount, mostCount - 2}
	for ; fives < mostCount; fives *= 5 {
		counts = append(counts, fives, 2*fives, mostCount/fives*fives, fives+1)
	}
	rule := sample.Rule(0xd1b54a32d192ed03)
	for twos := leastTwos; twos <= mostTwos; twos++ {
		s := scaleOf(twos)
		q := new(big.Rat).Mul(to(2, twos), to(10, -s.tens))
		for _, count := range append(counts[:len(counts):len(counts)], rule.Next()>>9|1) {
			count %= mostCount + 1
			exact := new(big.Rat).Mul(q, new(big.Rat).SetInt(new(big.Int).SetUint64(count)))
			floor := new(big.Int).Quo(exact.Num(), exact.Denom()).Uint64()
			up, down := floor+1, floor
			if exact.IsInt() {
				down--
			}
			if s.floor(count) != floor || s.whole(count) != exact.IsInt() || s.least(count, false) != up || s.greatest(count, false) != down {
				t.Errorf("the scale of %d brings %d to %d, %v, want %v", twos, count, s.floor(count), s.whole(count), exact)
			}
			if exact.IsInt() {
				up--
			}
			if s.least(count, true) != up || s.greatest(count, true) != floor {
				t.Errorf("the scale of %d brings %d to %d and %d, want %v", twos, count, s.least(count, true), s.greatest(count, true), exact)
			}
		}
	}
}
