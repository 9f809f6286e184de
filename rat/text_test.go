package rat_test

import (
	"errors"
	"math/big"
	"strings"
	"testing"

	"plumb/api"
	"plumb/rat"
	"plumb/sample"
)

// faulty holds a Parse to its error and to the place of it.
func faulty(t *testing.T, s string, code api.Errno, at int) {
	t.Helper()
	got, err := rat.Parse(s)
	var f *api.Fault
	if !same(got, api.Rat{}) || !errors.As(err, &f) || !errors.Is(err, code) || f.At != at || f.Err != code {
		t.Errorf("Parse(%.40q) = %d by %d words, %v, want %d at %d alone", s, len(got.Num), len(got.Den), err, code, at)
	}
}

// parsed gives what Parse answers, which must not be refused.
func parsed(t *testing.T, s string) api.Rat {
	t.Helper()
	a, err := rat.Parse(s)
	if err != nil {
		t.Fatalf("Parse(%.40q): %v", s, err)
	}
	return a
}

// P5.7
func TestText(t *testing.T) {
	for _, c := range []struct {
		a    api.Rat
		want string
	}{
		{rat.Int(0), "0"},
		{rat.Int(5), "5"},
		{rat.Int(-5), "-5"},
		{api.Rat{Neg: true, Num: list{3}, Den: list{4}}, "-3/4"},
		{api.Rat{Num: list{1}, Den: list{10}}, "1/10"},
		{api.Rat{Num: list{0, 1}, Den: list{m}}, "18446744073709551616/18446744073709551615"},
		{api.Rat{Num: list{3}, Den: list{1, 1}}, "3/18446744073709551617"},
	} {
		if s, e := rat.Text(c.a); s != c.want || e != api.OK {
			t.Errorf("Text(%v) = %q, %d, want %q", c.a, s, e, c.want)
		}
	}
	for _, a := range append(rats(), api.Rat{Neg: true, Num: sample.Of(4096, m), Den: power(262143)}) {
		if s, e := rat.Text(a); s != exact(a).RatString() || e != api.OK {
			t.Errorf("Text(%d by %d words) = %.60q, %d", len(a.Num), len(a.Den), s, e)
		}
	}
	for i, bad := range wrongs() {
		if s, e := rat.Text(bad); s != "" || e != api.ErrRat {
			t.Errorf("Text of wrong Rat %d = %q, %d", i, s, e)
		}
	}
}

// P5.8
func TestParseExamples(t *testing.T) {
	for _, c := range [][2]string{
		{"-12/8", "-3/2"}, {"007", "7"}, {"-0/5", "0"}, {"-0", "0"}, {"0", "0"}, {"-000/0010", "0"},
		{"0012/0008", "3/2"}, {"-7", "-7"}, {"5/1", "5"}, {"12/4", "3"},
		{"18446744073709551616/2", "9223372036854775808"},
		{"1/" + strings.Repeat("0", 100000) + "2", "1/2"},
		{strings.Repeat("0", 100000) + "3/6", "1/2"},
	} {
		is(t, "Parse", parsed(t, c[0]), api.OK, text(t, c[1]))
	}
}

// P5.8: the first byte that can't stand there.
func TestParseRefusesOtherTexts(t *testing.T) {
	for _, c := range []struct {
		s  string
		at int
	}{
		{"", 0}, {"-", 1}, {"1/", 2}, {"-1/", 3}, {"/", 0}, {"/2", 0}, {"-/2", 1}, {"-/", 1},
		{"+1", 0}, {"1/-2", 2}, {"1/+2", 2}, {"--1", 1}, {"1-", 1}, {"1/2-", 3}, {"1//2", 2}, {"1/2/3", 3}, {"1/2/", 3},
		{"1/2 ", 3}, {" 1/2", 0}, {"- 1", 1}, {"1 /2", 1}, {"1/ 2", 2}, {"1\n", 1}, {"1\x00", 1},
		{"1.5", 1}, {"1e5", 1}, {"0x1", 1}, {"a", 0}, {"1/f", 2}, {"1_0", 1},
		{"é", 0}, {"1é", 1}, {"1/2é", 3}, {"1/é", 2}, {"1\xff", 1}, {"9٣", 1}, {"1∕2", 1}, {"−1", 0},
		{"1/0x", 3}, {"1/0/", 3}, {"x/0", 0}, {"1x/y", 1},
	} {
		faulty(t, c.s, api.ErrDigit, c.at)
	}
	for b := range 256 {
		s := string([]byte{byte(b)})
		if '0' <= b && b <= '9' {
			parsed(t, s)
			parsed(t, "-"+s+"/1"+s)
			continue
		}
		faulty(t, "1/1"+s, api.ErrDigit, 3)
		if b != '/' {
			faulty(t, "-1"+s, api.ErrDigit, 2)
		}
	}
}

// P5.8
func TestParseRefusesZeroBelow(t *testing.T) {
	for _, c := range []struct {
		s  string
		at int
	}{{"1/0", 2}, {"-1/0", 3}, {"0/0", 2}, {"-7/000", 3}, {"123/00000", 4}} {
		faulty(t, c.s, api.ErrZeroDen, c.at)
	}
}

// P5.8: the greatest number and the next one, above and below; what is too long comes last.
func TestParseAtTheLimit(t *testing.T) {
	over := new(big.Int).Lsh(big.NewInt(1), api.MaxLimbs*64)
	most := new(big.Int).Sub(over, big.NewInt(1)).String()
	next := over.String()
	longest := api.Rat{Neg: true, Num: sample.Of(4096, m), Den: list{1}}
	if !same(parsed(t, "-"+most), longest) || !same(parsed(t, "-000"+most+"/01"), longest) {
		t.Error("Parse of -(2^262144 - 1) is another")
	}
	if !same(parsed(t, "1/"+most), part(sample.Of(4096, m))) || !same(parsed(t, most+"/"+most), rat.Int(1)) {
		t.Error("Parse with 2^262144 - 1 below is another")
	}
	long := "9" + strings.Repeat("0", 200000)
	for _, huge := range []string{next, "000" + next, long} {
		faulty(t, huge, api.ErrHuge, 0)
		faulty(t, "-"+huge, api.ErrHuge, 1)
		faulty(t, "-"+huge+"/3", api.ErrHuge, 1)
		faulty(t, "3/"+huge, api.ErrHuge, 2)
		faulty(t, "-0/"+huge, api.ErrHuge, 3)
		faulty(t, "-"+huge+"/"+huge, api.ErrHuge, 1)
		faulty(t, huge+"/00", api.ErrZeroDen, len(huge)+1)
		faulty(t, huge+"/0x", api.ErrDigit, len(huge)+2)
		faulty(t, "-"+huge+"/", api.ErrDigit, len(huge)+2)
		faulty(t, huge+" ", api.ErrDigit, len(huge))
		faulty(t, "x/"+huge, api.ErrDigit, 0)
	}
}

// P5.10: Parse takes Text back, and Text of Parse is the same for all texts of one number.
func TestTextsAndRatsGoTogether(t *testing.T) {
	for _, a := range rats() {
		s, e := rat.Text(a)
		is(t, "Parse of Text", parsed(t, s), e, a)
		for _, k := range []int64{1, 2, 9, 10, 1 << 40} {
			factor := big.NewInt(k)
			x := exact(a)
			other := new(big.Int).Mul(x.Num(), factor).String() + "/000" + new(big.Int).Mul(x.Denom(), factor).String()
			if got, e := rat.Text(parsed(t, other)); got != s || e != api.OK {
				t.Errorf("Text(Parse(%q)) = %q, %d, want %q", other, got, e, s)
			}
		}
	}
}
