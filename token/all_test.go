package token_test

import (
	"slices"
	"strings"
	"testing"

	"plumb/api"
	"plumb/sample"
	"plumb/token"
)

// gives holds All to tokens.
func gives(t *testing.T, s string, want ...api.Token) {
	t.Helper()
	if l, err := token.All(s); err != nil || !slices.Equal(l, want) {
		t.Errorf("P18.4: All(%.60q) = %s, %v, want %s", s, brief(l), err, brief(want))
	}
}

// P18.4: the chapter's example 1.
func TestAllExamples(t *testing.T) {
	gives(t, "POINT (1 2)", w("POINT", 0, 5), mark(2, 6), n("1", 7, 8), n("2", 9, 10), mark(3, 10))
	minus := api.Token{Kind: 5, From: 8, To: 14, Num: api.Numeral{Kind: api.Decimal, Neg: true, Num: "25", Exp: 2}}
	hexa := api.Token{Kind: 5, From: 15, To: 20, Num: api.Numeral{Kind: api.Hexa, Num: "1"}}
	gives(t, "point(1\t-2.5e3,0x1p0)", w("POINT", 0, 5), mark(2, 5), n("1", 6, 7), minus, mark(4, 14), hexa, mark(3, 20))
	for _, s := range []string{"", " ", "\t", "\n", "\r", " \r\n", " \t \n\n\r "} {
		gives(t, s)
	}
}

// P18.2, P18.4: what else is taken; in example 2 what is.
func TestAllTakes(t *testing.T) {
	gives(t, "( )+1", mark(2, 0), mark(3, 2), n("1", 3, 5))
	gives(t, "nan inf", w("NAN", 0, 3), w("INF", 4, 7))
	gives(t, "))((,,", mark(3, 0), mark(3, 1), mark(2, 2), mark(2, 3), mark(4, 4), mark(4, 5))
	gives(t, "1,2)3(4", n("1", 0, 1), mark(4, 1), n("2", 2, 3), mark(3, 3), n("3", 4, 5), mark(2, 5), n("4", 6, 7))
	gives(t, "a,b)C(d", w("A", 0, 1), mark(4, 1), w("B", 2, 3), mark(3, 3), w("C", 4, 5), mark(2, 5), w("D", 6, 7))
	gives(t, "(a(1)2)b", mark(2, 0), w("A", 1, 2), mark(2, 2), n("1", 3, 4), mark(3, 4), n("2", 5, 6), mark(3, 6), w("B", 7, 8))
	gives(t, "\r\n 1\t2\n3\r4 5 ", n("1", 3, 4), n("2", 5, 6), n("3", 7, 8), n("4", 9, 10), n("5", 11, 12))
	gives(t, "e E p", w("E", 0, 1), w("E", 2, 3), w("P", 4, 5))
	gives(t, "3/4 -1/0 5. .5 +0X.8P-1", n("3/4", 0, 3), n("-1/0", 4, 8), n("5.", 9, 11), n(".5", 12, 14), n("0x.8p-1", 15, 23))
	gives(t, "1e5 1E+5 1e-05", n("1e5", 0, 3), n("1e5", 4, 8), n("1e-5", 9, 14))
}

// P18.2, P18.4: the chapter's example 2, and other bytes that begin no token.
func TestAllRefuses(t *testing.T) {
	for s, at := range map[string]int{
		"1x": 1, "abc1": 3, "1-2": 1, "1/2/3": 3, "a;b": 1, "é": 0, "+": 0, "-": 0, ".": 0, "1e": 1, "0x1": 1,
		"a b\x00": 3, "1 2_": 3, "POINT (1x 2)": 8, "(1 +)": 3, "5.5.5": 3, "a\"": 1, "\v": 0, "\f1": 0, " \u00a01": 1, "1\u00a0": 1,
		"aé": 1, "é1": 0, "a+": 1, "a+1": 1, "a-1": 1, "a.5": 1, "a/b": 1, "1e+": 1, "1e 5": 1, "1/ 2": 1, "1 /2": 2, "/": 0, "1.e": 2,
		"0x": 1, "0x1.8": 1, "0x1p": 1, "0x1p1p1": 5, "1e5e5": 3, "1/2e3": 3, "1.5/2": 3, "--1": 0, "+-1": 0, "- 1": 0, "..5": 0, "1..5": 2,
		"(;": 1, "( ;": 2, "1;": 1, "a;": 1, "; a": 0, "[1 2]": 0, "{": 0, "1_000": 1, "_": 0, "'a'": 0, "#": 0, "1#": 1, "\xff": 0, "a\xff": 1,
		"１": 0, "ａ": 0, "\u212a": 0, "\u017f": 0, "POINT Z(1 2); POINT": 12, "a b c 1y": 7, "1 2 3 4a b": 7, "abc\x80": 3, "infinity1": 8, "(1 2)) x y 3z)": 12,
	} {
		refuses(t, s, at)
	}
}

// P18.2: each byte alone, behind each thing, and ahead of a number.
func TestEachByte(t *testing.T) {
	for c := range 256 {
		one := string([]byte{byte(c)})
		for _, ahead := range []string{"", " ", "a", "1", "1/2", "0x1p2", "1.5e3", "(", ")", ",", "a ", "1 "} {
			for _, behind := range []string{"", "7", " 7"} {
				holds(t, ahead+one+behind)
			}
		}
	}
}

// holds holds All to the plain way.
func holds(t *testing.T, s string) {
	t.Helper()
	want, bad := plainAll(s)
	if bad >= 0 {
		refuses(t, s, bad)
	} else {
		gives(t, s, want...)
	}
}

// P18.2, P18.4: All is the plain way's, of all short texts of telling bytes, and of jumbles of pieces.
func TestAllIsPlain(t *testing.T) {
	const telling = "a0xe1.-/ (,p"
	for size, texts := 0, []string{""}; size <= 4; size++ {
		var longer []string
		for _, s := range texts {
			holds(t, s)
			for i := range telling {
				longer = append(longer, s+telling[i:i+1])
			}
		}
		texts = longer
	}
	rule := sample.Rule(184)
	for range 20000 {
		holds(t, jumble(&rule, 1+rule.Below(12)))
	}
	for range 3000 {
		holds(t, joined(&rule, tokens(&rule, rule.Below(30))))
	}
}

// P18.2: a numeral has at most MaxText bytes (doc/09-lex.md), so that a longer one is not shut; words have no such bound.
func TestLongTokens(t *testing.T) {
	sevens, letters := strings.Repeat("7", api.MaxText), strings.Repeat("qR", api.MaxText)
	gives(t, " "+sevens, n(sevens, 1, api.MaxText+1))
	gives(t, sevens+",1", n(sevens, 0, api.MaxText), mark(4, api.MaxText), n("1", api.MaxText+1, api.MaxText+2))
	refuses(t, sevens+"7", api.MaxText)
	refuses(t, "-"+sevens, api.MaxText)
	refuses(t, "a "+sevens+"7 b", api.MaxText+2)
	refuses(t, sevens[1:]+"/2", api.MaxText-1)
	refuses(t, "0x"+sevens+"p1", 1)
	gives(t, "("+letters+")", mark(2, 0), w(strings.ToUpper(letters), 1, 1+2*api.MaxText), mark(3, 1+2*api.MaxText))
	refuses(t, letters+"1", 2*api.MaxText)
	refuses(t, strings.Repeat(" ", 2*api.MaxText)+"1;", 2*api.MaxText+1)
}

// P18.4: no limit is set to how long a text is.
func TestAllOfMany(t *testing.T) {
	const count = 4 * api.MaxText
	l, err := token.All(strings.Repeat("1 (", count) + "2")
	if err != nil || len(l) != 2*count+1 {
		t.Fatalf("P18.4: %d tokens, %v", len(l), err)
	}
	for i := range count {
		if l[2*i] != n("1", 3*i, 3*i+1) || l[2*i+1] != mark(2, 3*i+2) {
			t.Fatalf("P18.4: the tokens %d: %v, %v", 2*i, l[2*i], l[2*i+1])
		}
	}
	refuses(t, strings.Repeat("a,", count)+"?", 2*count)
}
