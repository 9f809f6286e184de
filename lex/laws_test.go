package lex_test

import (
	"strings"
	"sync"
	"testing"

	"plumb/api"
	"plumb/lex"
	"plumb/rat"
)

// P9.6: Parse of Text is the numeral, for right ones of all kinds.
func TestTextIsReadBack(t *testing.T) {
	all := append(numerals(2000), d('+', "1", 1<<30), d('-', "", -1<<30), x('+', "abcdef", 1<<30), x('-', "", -1<<30),
		d('+', strings.Repeat("3", 65536), 0), d('-', strings.Repeat("3", 65535), 0), d('+', strings.Repeat("3", 65533), -1),
		x('-', strings.Repeat("e", 65528), 9999), r('+', strings.Repeat("3", 40000), strings.Repeat("7", 25535)))
	for _, n := range all {
		s, e := lex.Text(n)
		if e != api.OK || len(s) > api.MaxText {
			t.Fatalf("Text(%.80v): %d bytes, %d", n, len(s), e)
		}
		parses(t, s, n)
	}
}

// P9.6: texts that say the same have one text, which says the same too; unlike ones have not.
func TestOneText(t *testing.T) {
	seen := make(map[string]int)
	for i, group := range [][]string{
		{"12", "+12", "012", "12.", "12e0", "12e-0", "12E+00", "0000012.", "1.2e1", ".12e2", "0.12e+2", "0.0012E4"},
		{"-12", "-012", "-12.e0", "-.12e2"},
		{"12.0", "1.20e1", "120e-1", "00.120e2"},
		{"120", "12.0e1"},
		{"0", "00", "0.", "0e0", "+0", ".0e1", "0.000e3"},
		{"-0", "-0e0", "-0.0e1"},
		{"0e1", "0.0e2"},
		{"0x1.8p1", "0X18P-3", "0x.18p5", "0x0001.8p+01", "+0x18p-03"},
		{"0xABp0", "0xab.P0", "0xa.bp4", "0x.aBp8"},
		{"0x0p0", "0x.0p4", "0X0.0P4", "0x000p-0"},
		{"171", "+171"},
		{"3/4", "+3/4", "03/0004"},
		{"6/8"},
		{"-0/5", "-000/05"},
		{"0/0", "00/000"},
		{"1/0", "1/00"},
		{"1e1073741824", "1e1073741825", "1e99999999999", "1e" + strings.Repeat("9", 1000)},
		{"1e-1073741824", "1e-1073741825", "1e-99999999999999999999999"},
	} {
		for _, s := range group {
			n, err := lex.Parse(s)
			text, e := lex.Text(n)
			if err != nil || e != api.OK || lex.Check(n) != api.OK {
				t.Fatalf("Parse(%.40q) = %v, %v", s, n, err)
			}
			if at, ok := seen[text]; ok && at != i {
				t.Errorf("%.40q is written as %q, as what says another thing is", s, text)
			}
			seen[text] = i
			parses(t, text, n)
		}
	}
	if len(seen) != 18 {
		t.Errorf("%d texts of 18 groups", len(seen))
	}
}

// P9.6: a point among very many digits becomes an exponent; the text is longer than a numeral may be then.
func TestTextThatIsTooLong(t *testing.T) {
	s := "." + strings.Repeat("1", 65535)
	n, err := lex.Parse(s)
	text, e := lex.Text(n)
	if err != nil || e != api.OK || text != s[1:]+"e-65535" {
		t.Errorf("%d bytes, %v, %d", len(text), err, e)
	}
	if _, err := lex.Parse(text); !isFault(err, 65535, api.ErrExpo) {
		t.Errorf("Parse of %d bytes: %v", len(text), err)
	}
}

// P9.5, P9.6: a text's number is that of its one text.
func TestValueOfText(t *testing.T) {
	for _, s := range []string{"12.50", "-0.001e2", "0x1.8p-3", "1/3", "-4/6", "0.0", "1e20"} {
		n, _ := lex.Parse(s)
		text, _ := lex.Text(n)
		again, _ := lex.Parse(text)
		v, _ := lex.Value(n)
		w, _ := lex.Value(again)
		if order, e := rat.Cmp(v, w); order != 0 || e != api.OK {
			t.Errorf("%q and %q: %d, %d", s, text, order, e)
		}
	}
}

// P9.7: what stands behind the place where the numeral can't go on, or ahead of its beginning, does not matter.
func TestScanOfPieces(t *testing.T) {
	for _, c := range []struct {
		s    string
		stop int // the place of the first byte with which no numeral goes on
	}{
		{"12,3", 2}, {"-1.5e+,", 6}, {"0x1.8p-", 7}, {"0x1.8p1/", 7}, {"1/2/3", 3}, {"1/ ", 2}, {"1.5.5", 3}, {"0xg1p1", 2}, {"00x1p1", 2}, {"5e-7e", 4},
	} {
		n, end, err := lex.Scan(c.s, 0)
		for cut := c.stop; cut <= len(c.s); cut++ {
			m, place, bad := lex.Scan(c.s[:cut], 0)
			if m != n || place != end || (bad == nil) != (err == nil) {
				t.Errorf("Scan(%q, 0) = %v, %d, %v, of %q it is %v, %d", c.s[:cut], m, place, bad, c.s, n, end)
			}
		}
		for _, ahead := range []string{"1", "-", "0x", "1e", "é", "3/", strings.Repeat("8", 70000)} {
			reads(t, ahead+c.s+"\x00", len(ahead), n, len(ahead)+end)
		}
	}
}

// P9.8: many at once, and one behind the other, answer the same.
func TestDetermined(t *testing.T) {
	all := numerals(100)
	answer := func(n api.Numeral) string {
		s, _ := lex.Text(n)
		m, end, err := lex.Scan(s+"x", 0)
		v, e := lex.Value(m)
		if end != len(s) || err != nil || m != n {
			return "wrong: " + s
		}
		if e != api.OK {
			return s + " " + e.Error()
		}
		number, _ := rat.Text(v)
		return s + " " + number
	}
	var got [8][]string
	var done sync.WaitGroup
	for i := range got {
		done.Go(func() {
			for _, n := range all {
				got[i] = append(got[i], answer(n))
			}
		})
	}
	done.Wait()
	for at, n := range all {
		want := answer(n)
		if strings.HasPrefix(want, "wrong") {
			t.Error(want)
		}
		for i := range got {
			if got[i][at] != want {
				t.Errorf("of %v: %q beside others, %q alone", n, got[i][at], want)
			}
		}
	}
}
