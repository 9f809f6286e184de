package wide_test

import (
	"go/parser"
	"go/token"
	"os"
	"strconv"
	"strings"
	"testing"

	"plumb/api"
	"plumb/wide"
)

// P1.10: Sub takes back what Add gave, with the same carry.
func TestSubTakesBackAdd(t *testing.T) {
	for _, a := range samples() {
		for _, b := range samples() {
			for _, carry := range []uint64{0, 1, 2, 7, m} {
				sum, on := wide.Add(a, b, carry)
				back, off := wide.Sub(sum, b, carry)
				if back != a || off != on {
					t.Errorf("Add(%d, %d, %d) = %d, %d, but Sub gives %d, %d back", a, b, carry, sum, on, back, off)
				}
			}
		}
	}
}

// P1.10: Mul is the same either way round.
func TestMulEitherWayRound(t *testing.T) {
	for _, a := range samples() {
		for _, b := range samples() {
			hi, lo := wide.Mul(a, b)
			if hi2, lo2 := wide.Mul(b, a); hi != hi2 || lo != lo2 {
				t.Errorf("Mul(%d, %d) = %d, %d, but the other way round %d, %d", a, b, hi, lo, hi2, lo2)
			}
		}
	}
}

// P1.10: Div gives back what Mul was made of, and the rest.
func TestDivTakesBackMul(t *testing.T) {
	for _, b := range samples() {
		for _, q := range samples() {
			for _, r := range append(samples(), b-1) {
				if r >= b {
					continue
				}
				hi, lo := wide.Mul(q, b)
				lo, carry := wide.Add(lo, r, 0)
				hi, _ = wide.Add(hi, 0, carry)
				if q2, r2, e := wide.Div(hi, lo, b); q2 != q || r2 != r || e != api.OK {
					t.Errorf("%d * %d + %d: Div gives %d, %d, %d", q, b, r, q2, r2, e)
				}
			}
		}
	}
}

// P1.10: Shr takes back Shl where nothing was pushed out, and Shl takes back Shr where nothing was lost.
func TestShiftsTakeBack(t *testing.T) {
	for _, n := range shifts() {
		for _, hi := range samples() {
			for _, lo := range samples() {
				shlThenShr(t, hi, lo, n)
				shrThenShl(t, hi, lo, n)
			}
		}
	}
}

func shlThenShr(t *testing.T, hi, lo uint64, n int) {
	if number(hi, lo).BitLen()+int(held(n)) > 128 {
		return
	}
	a, b := wide.Shl(hi, lo, n)
	if hi2, lo2, lost := wide.Shr(a, b, n); hi2 != hi || lo2 != lo || lost {
		t.Errorf("Shl(%d, %d, %d) = %d, %d, but Shr gives %d, %d, %v back", hi, lo, n, a, b, hi2, lo2, lost)
	}
}

func shrThenShl(t *testing.T, hi, lo uint64, n int) {
	a, b, lost := wide.Shr(hi, lo, n)
	hi2, lo2 := wide.Shl(a, b, n)
	if back := hi2 == hi && lo2 == lo; back == lost {
		t.Errorf("Shr(%d, %d, %d) = %d, %d, %v, but Shl gives %d, %d back", hi, lo, n, a, b, lost, hi2, lo2)
	}
}

// answers are what all calls answer for these arguments.
func answers(a, b, c, d uint64, n int) [20]uint64 {
	var out [20]uint64
	var e api.Errno
	var lost bool
	out[0], out[1] = wide.Add(a, b, c)
	out[2], out[3] = wide.Sub(a, b, c)
	out[4], out[5] = wide.Mul(a, b)
	out[6], out[7], out[8] = wide.Mul3(a, b, c)
	out[9], out[10], e = wide.Div(a, b, c)
	out[11] = uint64(e)
	out[12], out[13] = uint64(wide.Len(a)), uint64(wide.Zeros(a))
	out[14], out[15] = wide.Shl(a, b, n)
	out[16], out[17], lost = wide.Shr(a, b, n)
	out[18] = flag(lost)
	out[19] = uint64(wide.Cmp(a, b, c, d))
	return out
}

// P0.1, P0.4: whatever is given, no call panics, and the same arguments are answered alike whatever was asked between.
func TestDetermined(t *testing.T) {
	first := map[[4]uint64][20]uint64{}
	for round := range 2 {
		for i, a := range edges() {
			for _, b := range edges() {
				for _, c := range edges() {
					n := shifts()[i]
					key := [4]uint64{a, b, c, uint64(n)}
					got := answers(a, b, c, a, n)
					if round == 0 {
						first[key] = got
					} else if first[key] != got {
						t.Errorf("of %v: first %v, then %v", key, first[key], got)
					}
				}
			}
		}
	}
}

// The chapter: wide leans on api alone, and math/bits may not be used.
func TestLeansOnApiAlone(t *testing.T) {
	files, err := os.ReadDir(".")
	if err != nil {
		t.Fatal(err)
	}
	for _, f := range files {
		if !strings.HasSuffix(f.Name(), ".go") || strings.HasSuffix(f.Name(), "_test.go") {
			continue
		}
		tree, err := parser.ParseFile(token.NewFileSet(), f.Name(), nil, parser.ImportsOnly)
		if err != nil {
			t.Fatal(err)
		}
		for _, s := range tree.Imports {
			if path, _ := strconv.Unquote(s.Path.Value); path != "plumb/api" {
				t.Errorf("%s imports %s", f.Name(), path)
			}
		}
	}
}
