package token_test

import (
	"math"
	"slices"
	"strings"
	"testing"

	"plumb/api"
	"plumb/sample"
	"plumb/token"
)

// P18.5: the chapter's example 4.
func TestTightExamples(t *testing.T) {
	l, err := token.All(" POINT ( 1.0 -0 , 2/4 3 ) ")
	if s := token.Tight(l); err != nil || s != "POINT(10e-1 -0,2/4 3)" {
		t.Errorf("P18.5: Tight = %q, %v", s, err)
	}
}

// wrote holds Tight to a text.
func wrote(t *testing.T, want string, l ...api.Token) {
	t.Helper()
	if s := token.Tight(l); s != want {
		t.Errorf("P18.5: Tight(%s) = %.60q, want %.60q", brief(l), s, want)
	}
}

// P18.5: which tokens have which text, and between which a space stands; the rest of the chapter's example 4.
func TestTight(t *testing.T) {
	a, b, one := w("A", 0, 0), w("B", 0, 0), n("1", 0, 0)
	open, shut, comma := mark(api.OpenToken, 0), mark(api.ShutToken, 0), mark(api.Comma, 0)
	broken := api.Token{Kind: api.Number, Num: api.Numeral{Kind: 9}}
	empty, end := w("", 0, 0), api.Token{}
	wrote(t, "")
	wrote(t, "A b 1", a, w("b", 0, 0), one)
	wrote(t, "A B", a, end, b)
	wrote(t, "1", empty, one)
	wrote(t, "A B", a, broken, b)
	wrote(t, "1,1(A", one, comma, one, open, a)
	wrote(t, "1 1 1", one, api.Token{Kind: 6}, api.Token{Kind: -1}, one, one)
	wrote(t, "a) 1", w("a)", 0, 0), one)
	wrote(t, "A(B)1,A", a, open, b, shut, one, comma, a)
	wrote(t, "(),(),", open, shut, comma, open, shut, comma)
	wrote(t, "1 A", one, a)
	wrote(t, "A,B", a, end, comma, empty, b)
	wrote(t, "(A)", empty, open, broken, a, end, shut, broken)
	wrote(t, "A B", empty, a, empty, broken, end, empty, b, empty)
	wrote(t, "", end, empty, broken, api.Token{Kind: math.MaxInt}, api.Token{Kind: math.MinInt})
	wrote(t, "éx - ( 1", w("éx", 0, 0), w("-", 0, 0), w("( 1", 0, 0))
	wrote(t, "(,)", api.Token{Kind: 2, Word: "A", Num: one.Num, From: -5, To: 7}, api.Token{Kind: 4, Word: "B"}, api.Token{Kind: 3, Num: broken.Num})
	wrote(t, "A 1", api.Token{Kind: 1, Word: "A", Num: one.Num, From: 9, To: -9}, api.Token{Kind: 5, Word: "A", Num: one.Num})
	wrote(t, "", api.Token{Kind: 0, Word: "A", Num: one.Num}, api.Token{Kind: 6, Word: "A", Num: one.Num}, api.Token{Kind: 5, Word: "A"})
}

// P18.5: numbers are written as lex.Text writes them, and are left out where it refuses them.
func TestTightOfNumbers(t *testing.T) {
	for s, want := range map[string]string{
		"+007": "7", "-0.50": "-50e-2", "1.5e3": "15e2", "0.00e5": "0e3", "0x1.8p1": "0x18p-3", "0X0p0": "0x0p0", "-010/002": "-10/2", "1/0": "1/0", "1e9999999999": "1e1073741824",
	} {
		wrote(t, "("+want+")", mark(2, 0), n(s, 0, 0), mark(3, 0))
	}
	for _, num := range []api.Numeral{
		{}, {Kind: 4}, {Kind: 1, Num: "05"}, {Kind: 1, Num: "5", Den: "1"}, {Kind: 2, Num: "AB"}, {Kind: 3, Num: "1", Den: "2", Exp: 1},
		{Kind: 1, Num: "5", Exp: api.MaxExp + 1}, {Kind: 1, Num: strings.Repeat("3", api.MaxText+1)},
	} {
		bad := api.Token{Kind: api.Number, Num: num}
		wrote(t, "A B(1)", w("A", 0, 0), bad, w("B", 0, 0), mark(2, 0), bad, n("1", 0, 0), bad, mark(3, 0))
	}
}

// plainTight writes tokens by the plain way: a space ahead of each that has one of its like ahead, the last of all that
// have a text.
func plainTight(l []api.Token) string {
	var texts []string
	var kinds []int
	for _, t := range l {
		s := token.Tight([]api.Token{t})
		if s != "" {
			texts, kinds = append(texts, s), append(kinds, t.Kind)
		}
	}
	for i := range texts {
		if i > 0 && kinds[i]%4 == 1 && kinds[i-1]%4 == 1 {
			texts[i] = " " + texts[i]
		}
	}
	return strings.Join(texts, "")
}

// P18.5: rows of any tokens.
func TestTightIsPlain(t *testing.T) {
	rule := sample.Rule(185)
	any := []api.Token{
		w("A", 0, 0), w("bc", 0, 0), w("", 0, 0), n("1", 0, 0), n("-1/3", 0, 0), {Kind: api.Number}, mark(2, 0), mark(3, 0), mark(4, 0), {}, {Kind: 7, Word: "x"}, {Kind: -3},
	}
	for range 5000 {
		l := make([]api.Token, rule.Below(12))
		for i := range l {
			l[i] = any[rule.Below(len(any))]
		}
		before := slices.Clone(l)
		wrote(t, plainTight(l), l...)
		if !slices.Equal(l, before) {
			t.Fatalf("P18.7: Tight changed %v to %v", before, l)
		}
	}
}

// P18.5: many tokens and long ones.
func TestTightOfMany(t *testing.T) {
	l := slices.Repeat([]api.Token{w("A", 0, 0), n("1", 0, 0), mark(2, 0)}, api.MaxText)
	wrote(t, strings.Repeat("A 1(", api.MaxText), l...)
	long := strings.Repeat("8", api.MaxText)
	wrote(t, long+" "+long+" x", n(long, 0, 0), n(long, 0, 0), w("x", 0, 0))
}
