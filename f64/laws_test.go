package f64_test

import (
	"cmp"
	"go/parser"
	"go/token"
	"os"
	"strconv"
	"strings"
	"testing"

	"plumb/api"
	"plumb/f64"
	"plumb/sample"
)

// rank gives a finite pattern's rank.
func rank(t *testing.T, b uint64) int64 {
	t.Helper()
	n, e := f64.Rank(b)
	if e != api.OK {
		t.Fatalf("Rank(%x): error %d", b, e)
	}
	return n
}

// P6.7: At takes back Rank, but for -0, and Rank takes back At.
func TestRankAndAt(t *testing.T) {
	for _, b := range finite() {
		want := b
		if b == minusZero {
			want = 0
		}
		if got, e := f64.At(rank(t, b)); got != want || e != api.OK {
			t.Errorf("At(Rank(%x)) = %x, %d", b, got, e)
		}
	}
	rule := sample.Rule(67)
	for range 1000 {
		n := int64(rule.Next()%(2*lastRank+1)) - lastRank
		b, e := f64.At(n)
		if e != api.OK || rank(t, b) != n {
			t.Errorf("At(%d) = %x, %d", n, b, e)
		}
	}
}

// P6.7: the order is that of the ranks.
func TestCmpIsTheOrderOfRanks(t *testing.T) {
	all := finite()
	for i, a := range all {
		for _, b := range []uint64{a, f64.Neg(a), all[(i+1)%len(all)], all[(i*31+7)%len(all)]} {
			if got, e := f64.Cmp(a, b); got != cmp.Compare(rank(t, a), rank(t, b)) || e != api.OK {
				t.Errorf("Cmp(%x, %x) = %d, %d, the ranks %d, %d", a, b, got, e, rank(t, a), rank(t, b))
			}
		}
	}
}

// P6.7, P6.4: Next is one rank on, Prev one back, and Prev is Neg of Next of Neg.
func TestNextIsOneRankOn(t *testing.T) {
	for _, b := range finite() {
		if next, e := f64.Next(b); e == api.OK && rank(t, next) != rank(t, b)+1 {
			t.Errorf("Next(%x) = %x", b, next)
		}
		prev, e := f64.Prev(b)
		if e == api.OK && rank(t, prev) != rank(t, b)-1 {
			t.Errorf("Prev(%x) = %x", b, prev)
		}
		if next, f := f64.Next(f64.Neg(b)); e != f || (e == api.OK && prev != f64.Neg(next)) {
			t.Errorf("Prev(%x) = %x, %d, but Next(Neg) = %x, %d", b, prev, e, next, f)
		}
	}
}

// P6.7: Join takes back Split.
func TestJoinTakesBackSplit(t *testing.T) {
	for _, b := range finite() {
		neg, mant, exp, e := f64.Split(b)
		if got, f := f64.Join(neg, mant, exp); got != b || e != api.OK || f != api.OK {
			t.Errorf("Join of Split of %x = %x, %d, %d", b, got, e, f)
		}
	}
}

// P6.7: patterns with one number are one, but for 0 and -0.
func TestOneNumberOnePattern(t *testing.T) {
	for i, a := range finite() {
		for _, b := range finite()[i%5:] {
			order, e := f64.Cmp(a, b)
			zeros := a|b == minusZero
			if e != api.OK || (order == 0) != (a == b || zeros) {
				t.Fatalf("Cmp(%x, %x) = %d, %d", a, b, order, e)
			}
		}
	}
}

// answers are what all calls answer for these arguments.
func answers(a, b uint64, exp int) [20]uint64 {
	var out [20]uint64
	var e api.Errno
	var n, m int
	var r int64
	out[0], out[1] = uint64(f64.Class(a)), f64.Neg(a)
	neg, mant, n, e := f64.Split(a)
	out[2], out[3], out[4] = mant, uint64(n), uint64(e)
	if neg {
		out[5] = 1
	}
	out[6], e = f64.Join(neg, b, exp)
	out[7] = uint64(e)
	out[8], e = f64.Next(a)
	out[9] = uint64(e)
	out[10], e = f64.Prev(a)
	out[11] = uint64(e)
	m, e = f64.Cmp(a, b)
	out[12], out[13] = uint64(m), uint64(e)
	r, e = f64.Rank(a)
	out[14], out[15] = uint64(r), uint64(e)
	out[16], e = f64.At(int64(a))
	out[17] = uint64(e)
	return out
}

// P0.1, P0.4: whatever is given, no call panics, and the same arguments are answered alike whatever was asked between.
func TestDetermined(t *testing.T) {
	first := map[int][20]uint64{}
	all := patterns()
	for round := range 2 {
		for i, a := range all {
			got := answers(a, all[(i*17+5)%len(all)], int(a))
			if round == 0 {
				first[i] = got
			} else if first[i] != got {
				t.Errorf("of %x: first %v, then %v", a, first[i], got)
			}
		}
	}
}

// The chapter: whole numbers alone are reckoned with, and the layer leans on wide: package math is not asked.
func TestWholeNumbersAlone(t *testing.T) {
	files, err := os.ReadDir(".")
	if err != nil {
		t.Fatal(err)
	}
	for _, f := range files {
		if strings.HasSuffix(f.Name(), "_test.go") || !strings.HasSuffix(f.Name(), ".go") {
			continue
		}
		tree, err := parser.ParseFile(token.NewFileSet(), f.Name(), nil, parser.ImportsOnly)
		if err != nil {
			t.Fatal(err)
		}
		for _, s := range tree.Imports {
			if path, _ := strconv.Unquote(s.Path.Value); path == "math" || path == "math/big" {
				t.Errorf("%s imports %s", f.Name(), path)
			}
		}
	}
}
