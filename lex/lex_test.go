package lex_test

import (
	"math"
	"math/big"
	"regexp"
	"strings"
	"testing"

	"plumb/api"
	"plumb/lex"
	"plumb/sample"
)

// d, x and r give a decimal, a hexadecimal and a rational; the minus is the sign.
func d(sign byte, num string, exp int) api.Numeral {
	return api.Numeral{Kind: api.Decimal, Neg: sign == '-', Num: num, Exp: exp}
}

func x(sign byte, num string, exp int) api.Numeral {
	return api.Numeral{Kind: api.Hexa, Neg: sign == '-', Num: num, Exp: exp}
}

func r(sign byte, num string, den string) api.Numeral {
	return api.Numeral{Kind: api.Ratio, Neg: sign == '-', Num: num, Den: den}
}

// reads holds Scan to a numeral and the place behind it.
func reads(t *testing.T, s string, from int, want api.Numeral, end int) {
	t.Helper()
	if n, place, err := lex.Scan(s, from); n != want || place != end || err != nil {
		t.Errorf("Scan(%.40q, %d) = %.100v, %d, %v, want %.100v, %d", s, from, n, place, err, want, end)
	}
}

// parses holds Parse to a numeral.
func parses(t *testing.T, s string, want api.Numeral) {
	t.Helper()
	if n, err := lex.Parse(s); n != want || err != nil {
		t.Errorf("Parse(%.40q) = %.100v, %v, want %.100v", s, n, err, want)
	}
}

// isFault tells whether an error is the Fault with that Errno at that place, and no more than it.
func isFault(err error, at int, code api.Errno) bool {
	f, ok := err.(*api.Fault)
	return ok && f.At == at && f.Err == code
}

// P9.1, P9.2: the chapter's examples 1 to 4.
func TestParseExamples(t *testing.T) {
	const most = 1073741824
	for s, want := range map[string]api.Numeral{
		"12":                                    d('+', "12", 0),
		"-0.50":                                 d('-', "50", -2),
		"1.5e3":                                 d('+', "15", 2),
		".5":                                    d('+', "5", -1),
		"5.":                                    d('+', "5", 0),
		"+007":                                  d('+', "7", 0),
		"0.00e5":                                d('+', "", 3),
		"-0":                                    d('-', "", 0),
		"1E+05":                                 d('+', "1", 5),
		"0x1.8p1":                               x('+', "18", -3),
		"-0XaBp-4":                              x('-', "ab", -4),
		"0x.8p0":                                x('+', "8", -4),
		"0x0p9":                                 x('+', "", 9),
		"0x1.p0":                                x('+', "1", 0),
		"3/4":                                   r('+', "3", "4"),
		"-010/002":                              r('-', "10", "2"),
		"1/0":                                   r('+', "1", ""),
		"0/5":                                   r('+', "", "5"),
		"1e99999999999999999999":                d('+', "1", most),
		"1e-99999999999":                        d('+', "1", -most),
		"0x1p1073741825":                        x('+', "1", most),
		"1.00000e" + strings.Repeat("9", 60000): d('+', "100000", most),
	} {
		parses(t, s, want)
		reads(t, s, 0, want, len(s))
	}
}

// P9.1: the chapter's example 5.
func TestScanExamples(t *testing.T) {
	reads(t, "1e", 0, d('+', "1", 0), 1)
	reads(t, "1e+", 0, d('+', "1", 0), 1)
	reads(t, "0x", 0, d('+', "", 0), 1)
	reads(t, "0x1", 0, d('+', "", 0), 1)
	reads(t, "1/2/3", 0, r('+', "1", "2"), 3)
	reads(t, "1.5/2", 0, d('+', "15", -1), 3)
	reads(t, "1/2e3", 0, r('+', "1", "2"), 3)
	reads(t, "x-1.2.3", 1, d('-', "12", -1), 5)
	reads(t, "1e5e5", 0, d('+', "1", 5), 3)
}

// P9.1: the chapter's example 6; places outside the text, and a sign without a numeral's rest.
func TestScanRefuses(t *testing.T) {
	for _, c := range []struct {
		s    string
		from int
	}{
		{"", 0}, {"+", 0}, {".", 0}, {"-.e1", 0}, {"e1", 0}, {"nan", 0}, {"--1", 0}, {"1", 2}, {"1", -1}, {"1", 1},
		{"", 1}, {"", -1}, {"12", math.MaxInt}, {"12", math.MinInt}, {"12", math.MaxInt - 65536}, {"inf", 0},
		{"Infinity", 0}, {" 1", 0}, {"/2", 0}, {"x1p1", 0}, {"p1", 0}, {"+-1", 0}, {"-+1", 0}, {"- 1", 0}, {"-/2", 0},
		{"+.", 0}, {"..1", 0}, {".e1", 0}, {"1+", 1}, {"\x001", 0}, {"١", 0}, {"１", 0}, {"\xff", 0}, {"−1", 0},
		{"_1", 0}, {",1", 0},
	} {
		n, end, err := lex.Scan(c.s, c.from)
		if n != (api.Numeral{}) || end != 0 || !isFault(err, c.from, api.ErrNumeral) {
			t.Errorf("Scan(%q, %d) = %v, %d, %v", c.s, c.from, n, end, err)
		}
	}
}

// P9.2: the chapter's example 7, and what else may stand behind a numeral.
func TestParseRefuses(t *testing.T) {
	for _, c := range []struct {
		s    string
		at   int
		code api.Errno
	}{
		{"1e", 1, api.ErrExpo}, {"1e+", 1, api.ErrExpo}, {"1-2", 1, api.ErrSign}, {"3/-4", 1, api.ErrNumeral},
		{"0x1", 1, api.ErrNumeral}, {"1 ", 1, api.ErrNumeral}, {"1p5", 1, api.ErrExpo}, {"1/2e3", 3, api.ErrExpo},
		{"", 0, api.ErrNumeral}, {"+", 0, api.ErrNumeral},
		{"1E", 1, api.ErrExpo}, {"1P", 1, api.ErrExpo}, {"1+", 1, api.ErrSign}, {"1.+2", 2, api.ErrSign},
		{"1e5-", 3, api.ErrSign}, {"1/2+", 3, api.ErrSign}, {"0x1p1+1", 5, api.ErrSign}, {"0x1p1e1", 5, api.ErrExpo},
		{"0x1p+", 1, api.ErrNumeral}, {"0x1.8", 1, api.ErrNumeral}, {"0X.p1", 1, api.ErrNumeral}, {"-0x", 2, api.ErrNumeral},
		{"1.2.3", 3, api.ErrNumeral}, {"1/", 1, api.ErrNumeral}, {"1./2", 2, api.ErrNumeral}, {"1/.5", 1, api.ErrNumeral},
		{"1e1.5", 3, api.ErrNumeral}, {"1f", 1, api.ErrNumeral}, {"1_0", 1, api.ErrNumeral}, {"1\x00", 1, api.ErrNumeral},
		{"1é", 1, api.ErrNumeral}, {" 1", 0, api.ErrNumeral}, {"e5", 0, api.ErrNumeral}, {"-", 0, api.ErrNumeral},
		{"00x1p1", 2, api.ErrNumeral}, {"1x1p1", 1, api.ErrNumeral}, {"0e1p1", 3, api.ErrExpo}, {"0x1p0x1", 5, api.ErrNumeral},
	} {
		if n, err := lex.Parse(c.s); n != (api.Numeral{}) || !isFault(err, c.at, c.code) {
			t.Errorf("Parse(%q) = %v, %v, want %d at %d", c.s, n, err, c.code, c.at)
		}
	}
}

// P9.2: each byte, behind a numeral that it does not make longer.
func TestParseBehind(t *testing.T) {
	for c := range 256 {
		want := api.ErrNumeral
		switch c {
		case '+', '-':
			want = api.ErrSign
		case 'e', 'E', 'p', 'P':
			want = api.ErrExpo
		}
		for _, s := range []string{"1/2", "1e2", "0x1p2"} {
			if '0' <= c && c <= '9' {
				continue
			}
			if n, err := lex.Parse(s + string([]byte{byte(c)})); n != (api.Numeral{}) || !isFault(err, len(s), want) {
				t.Errorf("Parse of %q and the byte %d: %v, %v", s, c, n, err)
			}
		}
	}
}

// P9.1, P9.2: numerals have at most MaxText bytes, the sign counted.
func TestLongNumerals(t *testing.T) {
	sevens := strings.Repeat("7", 65537)
	reads(t, sevens, 0, d('+', sevens[1:], 0), 65536)
	reads(t, "ab"+sevens, 2, d('+', sevens[1:], 0), 65538)
	reads(t, "-"+sevens, 0, d('-', sevens[2:], 0), 65536)
	reads(t, "-"+sevens[:65533]+"e5", 0, d('-', sevens[:65533], 5), 65536)
	reads(t, "-"+sevens[:65534]+"e5", 0, d('-', sevens[:65534], 0), 65535)
	reads(t, sevens[:65534]+"/23", 0, r('+', sevens[:65534], "2"), 65536)
	reads(t, sevens[:65535]+"/2", 0, d('+', sevens[:65535], 0), 65535)
	reads(t, "1e"+strings.Repeat("0", 65533)+"12", 0, d('+', "1", 1), 65536)
	reads(t, "0x"+sevens[:65531]+"p12", 0, x('+', sevens[:65531], 12), 65536)
	reads(t, "0x"+sevens[:65532]+"p12", 0, x('+', sevens[:65532], 1), 65536)
	reads(t, "0x"+sevens[:65533]+"p1", 0, d('+', "", 0), 1)
	reads(t, "0x."+sevens[:65531]+"p1", 0, x('+', sevens[:65531], 1-4*65531), 65536)
	reads(t, "."+sevens, 0, d('+', sevens[:65535], -65535), 65536)
	reads(t, strings.Repeat("0", 65537), 0, d('+', "", 0), 65536)
	parses(t, sevens[:65536], d('+', sevens[:65536], 0))
	for s, code := range map[string]api.Errno{
		sevens:                        api.ErrNumeral,
		sevens[:65536] + "-":          api.ErrSign,
		sevens[:65536] + "e5":         api.ErrExpo,
		"1/" + sevens[:65535]:         api.ErrNumeral,
		"0x" + sevens[:65532] + "p12": api.ErrNumeral,
	} {
		if n, err := lex.Parse(s); n != (api.Numeral{}) || !isFault(err, 65536, code) {
			t.Errorf("Parse of %d bytes: %.60v, %v", len(s), n, err)
		}
	}
}

// P9.1: the exponent is held within its bounds once the digits behind the point are taken away.
func TestExponentBounds(t *testing.T) {
	for s, exp := range map[string]int{
		"1e1073741823": 1073741823, "1e1073741824": 1 << 30, "1e1073741825": 1 << 30, "1e2147483648": 1 << 30,
		"1e-1073741823": -1073741823, "1e-1073741824": -1 << 30, "1e-1073741825": -1 << 30,
		"1.0e1073741825": 1 << 30, "1.00e1073741825": 1<<30 - 1, "1.0e-1073741824": -1 << 30, "1.e-1073741823": -1<<30 + 1,
		"0x1p1073741824": 1 << 30, "0x1.0p1073741828": 1 << 30, "0x1.0p1073741827": 1<<30 - 1, "0x1.0p1073741829": 1 << 30,
		"0x1.0p-1073741820": -1 << 30, "0x1.0p-1073741819": -1<<30 + 1, "0x1.0p-1073741821": -1 << 30,
		"1e9223372036854775807": 1 << 30, "1e9223372036854775808": 1 << 30, "1e-9223372036854775809": -1 << 30,
		"1e18446744073709551616": 1 << 30, "1e-18446744073709551616": -1 << 30, "1e340282366920938463463374607431768211461": 1 << 30,
		"1e-0": 0, "1e+0": 0, "1e00000000000000000000000000000000000012": 12, "1e-00000000000000000000000000000000000012": -12,
	} {
		if n, err := lex.Parse(s); n.Exp != exp || err != nil {
			t.Errorf("Parse(%q) = %v, %v, want the exponent %d", s, n, err, exp)
		}
	}
	point := "1." + strings.Repeat("0", 65000)
	for s, exp := range map[string]int{
		point + "e1073741824": 1<<30 - 65000, point + "e1073806824": 1 << 30, point + "e1073806825": 1 << 30,
		point + "e1073806823": 1<<30 - 1, point + "e-1073741824": -1 << 30, point + "e2000000000": 1 << 30,
		"0x" + point + "p1074001824": 1 << 30, "0x" + point + "p1074001823": 1<<30 - 1, "0x" + point + "p-1": -260001,
		"0x" + point + "p9999999999999999999": 1 << 30,
	} {
		if n, err := lex.Parse(s); n.Exp != exp || err != nil {
			t.Errorf("Parse of the end %q: the exponent %d, %v, want %d", s[len(s)-20:], n.Exp, err, exp)
		}
	}
}

// P9.3: what is right, and what is not, field by field.
func TestCheck(t *testing.T) {
	nines := strings.Repeat("9", 65536)
	for _, n := range []api.Numeral{
		d('+', "", 0), d('-', "", 0), d('+', "1", 1<<30), d('-', "10", -1<<30), d('+', nines, 5), d('+', "9876543210", 0),
		x('+', "", 0), x('-', "", -7), x('+', "f0123456789abcde", 1<<30), x('+', "1", -1<<30), x('+', strings.ReplaceAll(nines, "9", "f"), 0),
		r('+', "", ""), r('-', "", ""), r('+', "", "1"), r('-', "1", ""), r('+', nines, nines),
	} {
		if e := lex.Check(n); e != api.OK {
			t.Errorf("Check(%.80v) = %d", n, e)
		}
	}
	for _, n := range wrong() {
		if e := lex.Check(n); e != api.ErrNumeral {
			t.Errorf("Check(%.80v) = %d", n, e)
		}
	}
}

// wrong are Numerals that are none.
func wrong() []api.Numeral {
	long := strings.Repeat("1", 65537)
	return []api.Numeral{
		{}, {Kind: 4}, {Kind: 4, Num: "1"}, {Kind: -1, Num: "1"}, {Kind: math.MaxInt}, {Kind: math.MinInt}, {Num: "1"}, {Neg: true},
		d('+', "05", 0), d('+', "0", 0), d('+', "1a", 0), d('+', "A", 0), d('+', "-1", 0), d('+', "+1", 0), d('+', "1.5", 0),
		d('+', " 1", 0), d('+', "1 ", 0), d('+', "1e5", 0), d('+', "1_0", 0), d('+', "1\x00", 0), d('+', "1٣", 0), d('+', "\xff", 0),
		d('+', "1\xff1", 0), d('+', "1/2", 0), d('+', "1:1", 0), d('+', long, 0),
		d('+', "1", 1<<30+1), d('+', "1", -1<<30-1), d('+', "", 1<<30+1), d('+', "", -1<<30-1), d('+', "1", math.MaxInt), d('+', "1", math.MinInt),
		{Kind: api.Decimal, Num: "1", Den: "1"}, {Kind: api.Decimal, Den: "2"}, {Kind: api.Decimal, Num: "1", Den: "x"},
		x('+', "AB", 0), x('+', "aB", 0), x('+', "0a", 0), x('+', "0", 0), x('+', "g", 0), x('+', "1g1", 0), x('+', "0x1", 0), x('+', "x1", 0),
		x('+', "1p1", 0), x('+', "1.8", 0), x('+', long, 0), x('+', "1", 1<<30+1), x('+', "1", -1<<30-1), x('+', "", 1<<30+1),
		{Kind: api.Hexa, Num: "1", Den: "1"}, {Kind: api.Hexa, Den: "1"},
		r('+', "01", "2"), r('+', "1", "02"), r('+', "1", "0"), r('+', "0", "1"), r('+', "a", "2"), r('+', "1", "a"), r('+', "-1", "2"),
		r('+', "1", "-2"), r('+', "1", "+2"), r('+', "1/2", "3"), r('+', long, "1"), r('+', "1", long), r('+', "1", " "),
		{Kind: api.Ratio, Num: "1", Den: "2", Exp: 1}, {Kind: api.Ratio, Num: "1", Den: "2", Exp: -1}, {Kind: api.Ratio, Exp: 1},
	}
}

// P9.4: the chapter's example 8.
func TestTextExamples(t *testing.T) {
	for _, c := range []struct {
		n    api.Numeral
		want string
	}{
		{d('-', "50", -2), "-50e-2"}, {d('+', "", 3), "0e3"}, {x('+', "18", -3), "0x18p-3"}, {x('+', "", 0), "0x0p0"}, {r('-', "10", ""), "-10/0"},
		{d('+', "5", 0), "5"}, {d('-', "", 0), "-0"}, {d('+', "", 0), "0"}, {d('-', "100", 1), "-100e1"}, {d('+', "1", 1<<30), "1e1073741824"},
		{d('+', "1", -1<<30), "1e-1073741824"}, {x('-', "ab", 12), "-0xabp12"}, {x('-', "", 0), "-0x0p0"}, {x('+', "1", 1<<30), "0x1p1073741824"},
		{r('+', "", ""), "0/0"}, {r('-', "", "7"), "-0/7"}, {r('+', "3", "4"), "3/4"},
	} {
		if s, e := lex.Text(c.n); s != c.want || e != api.OK {
			t.Errorf("Text(%v) = %q, %d, want %q", c.n, s, e, c.want)
		}
	}
}

// P9.4: what is not right has no text.
func TestTextRefuses(t *testing.T) {
	for _, n := range wrong() {
		if s, e := lex.Text(n); s != "" || e != api.ErrNumeral {
			t.Errorf("Text(%.80v) = %.20q, %d", n, s, e)
		}
	}
}

// grammar is the chapter's section Words, kind by kind: a sign; digits, those behind the point, the exponent; hex
// digits, those behind the point, the exponent; above and below the slash.
var grammar = func() *regexp.Regexp {
	re := regexp.MustCompile(`^([+-]?)(?:(\d+)(?:\.(\d*))?(?:[eE]([+-]?\d+))?|()\.(\d+)(?:[eE]([+-]?\d+))?|` +
		`0[xX]([\da-fA-F]+)(?:\.([\da-fA-F]*))?[pP]([+-]?\d+)|0[xX]()\.([\da-fA-F]+)[pP]([+-]?\d+)|(\d+)/(\d+))`)
	re.Longest()
	return re
}()

// told gives what the grammar says of the beginning of a text, and how long the numeral is (0: there is none).
func told(s string) (api.Numeral, int) {
	m := grammar.FindStringSubmatch(s[:min(len(s), api.MaxText)])
	if m == nil {
		return api.Numeral{}, 0
	}
	n := api.Numeral{Kind: api.Decimal, Neg: m[1] == "-"}
	number, scale := m[2]+m[5], 1
	behind, expo := m[3]+m[6], m[4]+m[7]
	switch {
	case m[15] != "":
		n.Kind, number, behind, expo = api.Ratio, m[14], "", ""
	case m[10]+m[13] != "":
		n.Kind, number, behind, expo, scale = api.Hexa, m[8]+m[11], m[9]+m[12], m[10]+m[13], 4
	}
	n.Num = strings.ToLower(strings.TrimLeft(number+behind, "0"))
	n.Den = strings.TrimLeft(m[15], "0")
	exp, _ := new(big.Int).SetString("0"+expo, 10)
	if expo != "" {
		exp, _ = new(big.Int).SetString(expo, 10)
	}
	exp.Sub(exp, big.NewInt(int64(scale*len(behind))))
	n.Exp = 1 << 30
	if exp.CmpAbs(big.NewInt(1<<30)) <= 0 {
		n.Exp = int(exp.Int64())
	} else if exp.Sign() < 0 {
		n.Exp = -1 << 30
	}
	return n, len(m[0])
}

// holds asks Scan and Parse of a text, and holds them to the grammar.
func holds(t *testing.T, s string, from int) {
	t.Helper()
	want, size := told(s[from:])
	if size == 0 {
		if n, end, err := lex.Scan(s, from); n != want || end != 0 || !isFault(err, from, api.ErrNumeral) {
			t.Fatalf("Scan(%q, %d) = %v, %d, %v, want none", s, from, n, end, err)
		}
		return
	}
	if n, end, err := lex.Scan(s, from); n != want || end != from+size || err != nil {
		t.Fatalf("Scan(%q, %d) = %v, %d, %v, want %v, %d", s, from, n, end, err, want, from+size)
	}
	if n, err := lex.Parse(s[from : from+size]); n != want || err != nil {
		t.Fatalf("Parse(%q) = %v, %v, want %v", s[from:from+size], n, err, want)
	}
}

// P9.1, P9.7: every text of up to six bytes of which numerals are made, at each of its places.
func TestShortTexts(t *testing.T) {
	var all func(s string, letters string, left int)
	all = func(s string, letters string, left int) {
		holds(t, s, 0)
		if left > 0 {
			for i := range len(letters) {
				all(s+letters[i:i+1], letters, left-1)
			}
		}
	}
	all("", "0x1.pe+/a", 5)
	all("0x", "F0.P-e", 6)
	all("-", "07E-./X", 5)
	all("1", ".9e/+", 6)
}

// P9.1, P9.7: longer texts, at each of their places; what is ahead of a place does not matter.
func TestLongerTexts(t *testing.T) {
	rule := sample.Rule(9)
	pieces := []string{"0", "0x", "0X", "1", "23", "00", ".", "e", "E", "p", "P", "+", "-", "/", "af", "DB", "456789", "e+", "p-", "e-07", " ", "x", "g", "é"}
	for range 3000 {
		var s strings.Builder
		for range 1 + rule.Below(12) {
			s.WriteString(pieces[rule.Below(len(pieces))])
		}
		for from := range s.Len() + 1 {
			holds(t, s.String(), from)
		}
	}
}
