package ftoa_test

import (
	"math"
	"math/big"
	"slices"
	"strconv"
	"strings"
	"sync"
	"testing"

	"plumb/api"
	"plumb/atof"
	"plumb/ftoa"
	"plumb/lex"
	"plumb/near"
	"plumb/rat"
	"plumb/ryu"
	"plumb/sample"
)

// text gives what Text answers, which must not be refused.
func text(t *testing.T, b uint64, mode int) string {
	t.Helper()
	s, e := ftoa.Text(b, mode)
	if e != api.OK {
		t.Fatalf("Text(%x, %d): refused: %d", b, mode, e)
	}
	return s
}

// printed gives the text of a pattern by the library's printer, whose hexadecimal exponents have two digits at least.
func printed(b uint64, mode int) string {
	f := math.Float64frombits(b)
	form := byte('e')
	size := math.Abs(f)
	switch {
	case mode == api.HexFloat:
		s := strconv.FormatFloat(f, 'x', -1, 64)
		if n := len(s); s[n-2] == '0' && (s[n-3] == '+' || s[n-3] == '-') {
			s = s[:n-2] + s[n-1:]
		}
		return s
	case mode == api.Shortest && (size == 0 || size >= 1e-6 && size < 1e21):
		form = 'f'
	}
	return strconv.FormatFloat(f, form, -1, 64)
}

// P14.1, P14.2: the texts of the library's printer.
func TestTextIsTheLibrarys(t *testing.T) {
	for _, b := range sample.Patterns() {
		for _, mode := range modes() {
			if s := text(t, b, mode); s != printed(b, mode) {
				t.Errorf("Text(%x, %d) = %q, want %q", b, mode, s, printed(b, mode))
			}
		}
		if s, e := ftoa.Hex(b); s != text(t, b, api.HexFloat) || e != api.OK {
			t.Errorf("Hex(%x) = %q, %d", b, s, e)
		}
	}
}

// P14.1: the form that Shortest takes hangs on the place of the point alone.
func TestShortestIsPlainOrScience(t *testing.T) {
	for _, b := range sample.Patterns() {
		d, exp, _ := ryu.Shortest(b)
		digits := strconv.FormatUint(d, 10)
		want := text(t, b, api.Science)
		if k := len(digits) + exp; d == 0 || k >= -5 && k <= 21 {
			plain, e := ftoa.Plain(digits, exp)
			if e != api.OK {
				t.Errorf("Plain(%s, %d): refused: %d", digits, exp, e)
			}
			want = strings.Repeat("-", int(b>>63)) + plain
		}
		if s := text(t, b, api.Shortest); s != want {
			t.Errorf("Text(%x, Shortest) = %q, want %q", b, s, want)
		}
	}
}

// P14.3: the number is the same, and nothing stands there that could be left out.
func TestPlainIsTheNumber(t *testing.T) {
	rule := sample.Rule(143)
	for range 20000 {
		digits := make([]byte, 1+rule.Below(24))
		for i := range digits {
			digits[i] = byte('0' + max(rule.Below(14)-4, 0))
		}
		exp := rule.Below(60) - 30
		if rule.Below(20) == 0 {
			exp = rule.Below(2*api.MaxFixed+1) - api.MaxFixed
		}
		s, e := ftoa.Plain(string(digits), exp)
		got, ok := new(big.Rat).SetString(s)
		want, _ := new(big.Rat).SetString(string(digits) + "e" + strconv.Itoa(exp))
		if e != api.OK || !ok || got.Cmp(want) != 0 {
			t.Errorf("Plain(%s, %d) = %q, %d", digits, exp, s, e)
		}
		ahead, behind, point := strings.Cut(s, ".")
		switch {
		case strings.Trim(s, "0123456789.") != "", ahead == "", ahead[0] == '0' && ahead != "0":
			t.Errorf("Plain(%s, %d) = %q", digits, exp, s)
		case point && (behind == "" || strings.HasSuffix(behind, "0")):
			t.Errorf("Plain(%s, %d) = %q", digits, exp, s)
		}
	}
}

// P14.4: the texts of each, a blank between; taken apart again, and read as a list.
func TestLineIsTheTexts(t *testing.T) {
	rule := sample.Rule(144)
	all := sample.Patterns()
	for range 300 {
		list := make([]uint64, 1+rule.Below(50))
		for i := range list {
			list[i] = all[rule.Below(len(all))]
		}
		for _, mode := range modes() {
			var texts []string
			for _, b := range list {
				texts = append(texts, text(t, b, mode))
			}
			s, e := ftoa.Line(list, mode)
			if s != strings.Join(texts, " ") || e != api.OK {
				t.Errorf("Line(%x, %d) = %q, %d", list, mode, s, e)
			}
			if back, err := atof.List(s); err != nil || !slices.Equal(back, list) {
				t.Errorf("%q of %x is read as %x, %v", s, list, back, err)
			}
		}
	}
}

// P14.5: read back as the pattern, and one numeral of the mode's kind.
func TestTextIsReadBack(t *testing.T) {
	for _, b := range sample.Patterns() {
		for _, mode := range modes() {
			s := text(t, b, mode)
			if back, err := atof.Parse(s); back != b || err != nil {
				t.Errorf("%q of %x is read as %x, %v", s, b, back, err)
			}
			kind := api.Decimal
			if mode == api.HexFloat {
				kind = api.Hexa
			}
			if n, err := lex.Parse(s); n.Kind != kind || n.Neg != (b>>63 == 1) || err != nil {
				t.Errorf("%q of %x is the numeral %v, %v", s, b, n, err)
			}
		}
	}
}

// P14.6: the digits that count are those of ryu.
func TestTextHasTheShortestDigits(t *testing.T) {
	for _, b := range sample.Patterns() {
		d, exp, _ := ryu.Shortest(b)
		want := strings.Trim(strconv.FormatUint(d, 10), "0")
		for _, mode := range []int{api.Shortest, api.Science} {
			s := text(t, b, mode)
			n, err := lex.Parse(s)
			if got := strings.TrimRight(n.Num, "0"); got != want || err != nil {
				t.Errorf("%q of %x has the digits %s, want %s", s, b, got, want)
			}
			if d != 0 && len(n.Num)+n.Exp != len(want)+exp {
				t.Errorf("%q of %x has its point elsewhere than %d, %d", s, b, d, exp)
			}
		}
	}
}

// P14.6: the hexadecimal is the pattern's number, with no digit that could be left out.
func TestHexIsExact(t *testing.T) {
	for _, b := range sample.Patterns() {
		s, _ := ftoa.Hex(b)
		n, err := lex.Parse(s)
		if err != nil {
			t.Errorf("%q of %x: %v", s, b, err)
		}
		got, e := lex.Value(n)
		want, f := near.Value(b)
		if c, g := rat.Cmp(got, want); c != 0 || e != api.OK || f != api.OK || g != api.OK {
			t.Errorf("%q of %x is not its number", s, b)
		}
		mant, _, _ := strings.Cut(strings.TrimPrefix(s, "-"), "p")
		if mant == "0x0" && b&^minus == 0 {
			continue
		}
		if !strings.HasPrefix(mant, "0x1") || strings.HasSuffix(mant, ".") || strings.Contains(mant, ".") && strings.HasSuffix(mant, "0") {
			t.Errorf("Hex(%x) = %q", b, s)
		}
	}
}

// P14.7: no two patterns have one text.
func TestTextsAreApart(t *testing.T) {
	list := sample.Patterns()
	for _, b := range sample.Patterns() {
		list = append(list, b^minus)
	}
	slices.Sort(list)
	list = slices.Compact(list)
	for _, mode := range modes() {
		seen := map[string]uint64{}
		for _, b := range list {
			s := text(t, b, mode)
			if other, ok := seen[s]; ok {
				t.Errorf("%x and %x are %q", other, b, s)
			}
			seen[s] = b
		}
	}
}

// answers gives all that the calls answer, as one text.
func answers(b uint64, i int) string {
	var out []string
	keep := func(s string, e api.Errno) {
		out = append(out, s+" "+strconv.Itoa(int(e)))
	}
	for mode := range 5 {
		keep(ftoa.Text(b, mode))
		keep(ftoa.Line([]uint64{1, b, minus}, mode))
	}
	keep(ftoa.Hex(b))
	keep(ftoa.Plain(strconv.FormatUint(b, 10), i%2400-1200))
	return strings.Join(out, ", ")
}

// P14.8: the same answers again, in another order, and from many callers at once.
func TestNothingIsKept(t *testing.T) {
	list := append(sample.Patterns()[:6000], strange()...)
	want := make([]string, len(list))
	for i, b := range list {
		want[i] = answers(b, i)
	}
	var all sync.WaitGroup
	for from := range 4 {
		all.Go(func() {
			for i := len(list) - 1 - from; i >= 0; i -= 4 {
				if got := answers(list[i], i); got != want[i] {
					t.Errorf("of %x: %s the second time, %s the first", list[i], got, want[i])
				}
			}
		})
	}
	all.Wait()
}

// P14.8: a list that is handed in stays as it is, its spare room too.
func TestLineLeavesItsList(t *testing.T) {
	for _, list := range [][]uint64{nil, {0}, {minus, 1, tenth, greatest}, {0, infinite}} {
		calls := func(in [][]uint64) [][]uint64 {
			for mode := range 5 {
				ftoa.Line(in[0], mode)
			}
			return nil
		}
		if wrong := sample.Memory(calls, list); wrong != "" {
			t.Errorf("Line of %x: %s", list, wrong)
		}
	}
}
