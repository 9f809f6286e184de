package expand

import (
	"math/big"
	"testing"

	"plumb/api"
	"plumb/sample"
)

// P13.4: the ends of the greatest pattern's interval: 2^1024 - 3 * 2^970 and 2^1024 - 2^970. (The answer is the same if
// the upper one is taken too low: so it is held here, from inside.)
func TestEndsOfTheGreatest(t *testing.T) {
	two := func(n uint) *big.Int { return new(big.Int).Lsh(big.NewInt(1), n) }
	high := new(big.Int).Sub(two(1024), two(970))
	low := new(big.Int).Sub(high, two(971))
	gotLow, gotHigh := ends(0x7fefffffffffffff)
	for _, c := range []struct {
		got  api.Rat
		want *big.Int
	}{{gotLow, low}, {gotHigh, high}} {
		if c.got.Neg || !sample.Is(c.got.Num, c.want) || !sample.Is(c.got.Den, big.NewInt(1)) {
			t.Errorf("an end of the greatest pattern's interval is %v, want %v", c.got, c.want)
		}
	}
}
