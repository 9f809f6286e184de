package ryu_test

import (
	"testing"

	"plumb/api"
	"plumb/ryu"
)

// minus is the sign bit.
const minus = 1 << 63

// P12.1: the chapter's examples 1 to 4, with either sign.
func TestShortestExamples(t *testing.T) {
	for _, c := range []struct {
		b, d uint64
		e    int
	}{
		{0x3ff0000000000000, 1, 0},
		{0x4024000000000000, 1, 1},
		{0x4059000000000000, 1, 2},
		{0x3fb999999999999a, 1, -1},
		{0x3fd3333333333334, 30000000000000004, -17},
		{0x400921fb54442d18, 3141592653589793, -15},
		{1, 5, -324},
		{2, 1, -323},
		{3, 15, -324},
		{0x000fffffffffffff, 2225073858507201, -323},
		{0x0010000000000000, 22250738585072014, -324},
		{0x7fefffffffffffff, 17976931348623157, 292},
		{0x4340000000000000, 9007199254740992, 0},
		{0x4340000000000001, 9007199254740994, 0},
		{0x44b52d02c7e14af6, 1, 23},
		{0x43e0000000000000, 9223372036854776, 3},
		{0x3ff8000000000000, 15, -1},
		{0, 0, 0},
	} {
		for _, b := range []uint64{c.b, c.b | minus} {
			if d, e, bad := ryu.Shortest(b); d != c.d || e != c.e || bad != api.OK {
				t.Errorf("Shortest(%x) = %d, %d, %d, want %d, %d", b, d, e, bad, c.d, c.e)
			}
		}
	}
}

// P12.1: numbers just between two decimals, where the even one is taken; powers of two whose nearest decimal lies below
// the interval; ends that are taken, and ends that are not; small subnormals; numbers whose digits are all there.
func TestShortestEdges(t *testing.T) {
	for _, c := range []struct {
		b, d uint64
		e    int
	}{
		{0x4310000000000001, 11258999068426242, -1}, // 2^50 + 1/4: .2 and .3 are as near
		{0x4310000000000003, 11258999068426248, -1}, // 2^50 + 3/4: .7 and .8 are
		{0x3e70000000000000, 5960464477539063, -23}, // 2^-24: 5.9604644775390625e-08, and the even one is too low
		{0x3d30000000000000, 5684341886080802, -29}, // 2^-44: 5.68434188608080148..e-14, where ..801 is too low
		{0x0060000000000000, 7120236347223045, -322},
		{0x3d20000000000000, 2842170943040401, -29},
		{0x44b52d02c7e14af5, 9999999999999997, 7}, // 10^23 lies at its upper end, which is not taken
		{0x44b52d02c7e14af7, 10000000000000001, 7},
		{0x4330000000000001, 4503599627370497, 0},
		{0x4350000000000000, 18014398509481984, 0},
		{0x4350000000000001, 18014398509481988, 0},
		{0x4390000000000000, 28823037615171174, 1},
		{0x7fe1ccf385ebc8a0, 1, 308},
		{0x7fe0000000000000, 898846567431158, 293},
		{0x3fd5555555555555, 3333333333333333, -16},
		{0x0000000000000004, 2, -323},
		{0x0000000000000005, 25, -324},
		{0x0000000000000009, 44, -324},
		{0x0000000000000013, 94, -324},
		{0x0000000000000014, 1, -322},
		{0x0010000000000001, 2225073858507202, -323},
	} {
		for _, b := range []uint64{c.b, c.b | minus} {
			if d, e, bad := ryu.Shortest(b); d != c.d || e != c.e || bad != api.OK {
				t.Errorf("Shortest(%x) = %d, %d, %d, want %d, %d", b, d, e, bad, c.d, c.e)
			}
		}
	}
}

// P12.1 and P12.2: patterns that are infinite, or none of a number, with either sign.
func TestNoDigits(t *testing.T) {
	for _, size := range []uint64{0x7ff0000000000000, 0x7ff0000000000001, 0x7ff8000000000000, 0x7ff8000000000001, 0x7fffffffffffffff} {
		for _, b := range []uint64{size, size | minus} {
			if d, e, bad := ryu.Shortest(b); d != 0 || e != 0 || bad != api.ErrNoDigits {
				t.Errorf("Shortest(%x) = %d, %d, %d", b, d, e, bad)
			}
			low, high, in, bad := ryu.Interval(b)
			if !none(low) || !none(high) || in || bad != api.ErrNoDigits {
				t.Errorf("Interval(%x) = %v, %v, %v, %d", b, low, high, in, bad)
			}
		}
	}
}

// none tells whether a Rat is the zero value.
func none(r api.Rat) bool {
	return !r.Neg && len(r.Num) == 0 && len(r.Den) == 0
}
