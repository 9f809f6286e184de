package lemire_test

import (
	"math/big"
	"slices"
	"strings"
	"testing"

	"plumb/api"
	"plumb/lemire"
	"plumb/sample"
)

// P10.4: where Small says true, Fast answers no other pattern.
func TestFastAgreesWithSmall(t *testing.T) {
	for exp := -22; exp <= 22; exp++ {
		for _, mant := range smallMants() {
			small, ok := lemire.Small(mant, exp)
			fast, bad := lemire.Fast(mant, exp)
			if !ok || bad != api.OK && bad != api.ErrUnsure || bad == api.OK && fast != small {
				t.Errorf("Small(%d, %d) = %x, %v, but Fast is %x, %d", mant, exp, small, ok, fast, bad)
			}
		}
	}
}

// P10.4: of one exponent the answers don't fall with the mantissa, and behind an overflow there is no other answer.
func TestFastRisesWithTheMantissa(t *testing.T) {
	rule := sample.Rule(0xd1b54a32d192ed03)
	for exp := api.LeastFive; exp <= api.MostFive; exp++ {
		mants := append(fastMants(exp, &rule), 0)
		slices.Sort(mants)
		rises(t, len(mants), func(i int) (uint64, int) { return mants[i], exp })
	}
}

// P10.4: of one mantissa the answers don't fall with the exponent.
func TestFastRisesWithTheExponent(t *testing.T) {
	rule := sample.Rule(0xd1b54a32d192ed03)
	for _, mant := range fastMants(0, &rule) {
		rises(t, 710, func(i int) (uint64, int) { return mant, i - 355 })
	}
}

// rises asks Fast for so many pairs and tells where a sure answer is less than one ahead of it.
func rises(t *testing.T, n int, pair func(i int) (uint64, int)) {
	t.Helper()
	last, lastBad := uint64(0), api.OK
	for i := range n {
		mant, exp := pair(i)
		b, bad := lemire.Fast(mant, exp)
		if bad == api.ErrUnsure {
			continue
		}
		if bad == api.OK && (b < last || lastBad == api.ErrOverflow) {
			t.Errorf("Fast(%d, %d) = %x, but %x, %d ahead of it", mant, exp, b, last, lastBad)
		}
		last, lastBad = b, bad
	}
}

// texts are texts of digits by a fixed rule: now with zeros ahead, now behind, from none to some dozens.
func texts() []string {
	rule := sample.Rule(0x9e3779b97f4a7c15)
	var out []string
	for range 3000 {
		digits := make([]byte, rule.Below(45))
		for i := range digits {
			digits[i] = byte('0' + rule.Below(10))
		}
		out = append(out, strings.Repeat("0", max(rule.Below(30)-15, 0))+string(digits)+strings.Repeat("0", max(rule.Below(30)-15, 0)))
	}
	return out
}

// P10.4: what Cut leaves out is less than one of the last digit that it used, and nothing where it says so.
func TestCutHoldsTheNumber(t *testing.T) {
	for _, digits := range texts() {
		w, used, more, bad := lemire.Cut(digits)
		number, _ := new(big.Int).SetString("0"+digits, 10)
		unit := new(big.Int).Exp(big.NewInt(10), big.NewInt(int64(len(digits)-used)), nil)
		low := new(big.Int).Mul(new(big.Int).SetUint64(w), unit)
		if bad != api.OK || number.Cmp(low) < 0 || number.Cmp(new(big.Int).Add(low, unit)) >= 0 || more != (number.Cmp(low) != 0) {
			t.Errorf("Cut(%q) = %d, %d, %v, %d", digits, w, used, more, bad)
		}
	}
}
