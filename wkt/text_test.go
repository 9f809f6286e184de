package wkt_test

import (
	"math"
	"math/big"
	"strconv"
	"strings"

	"plumb/api"
	"plumb/sample"
)

// some gives one of these pieces.
func some(rule *sample.Rule, pieces ...string) string {
	return pieces[rule.Below(len(pieces))]
}

// anyCase gives a word with its letters in any case.
func anyCase(rule *sample.Rule, word string) string {
	out := []byte(word)
	for i := range out {
		if rule.Below(3) == 0 {
			out[i] |= 'a' - 'A'
		}
	}
	return string(out)
}

// written gives a numeral that is rounded to the pattern.
func written(rule *sample.Rule, b uint64) string {
	const minus = 1 << 63
	f := math.Float64frombits(b)
	switch {
	case b == minus:
		return some(rule, "-0", "-0.00e5", "-0/7", "-0x0p9", "-1e-999", "-0x1p-1075", "-.0", "-1/1"+strings.Repeat("0", 400))
	case b == 0:
		return some(rule, "0", "+0", "0e9", "0/3", "0x.0p1", "1e-400", "0.", "1e-99999999999999999999")
	}
	switch rule.Below(6) {
	case 0:
		return strings.ToUpper(strconv.FormatFloat(f, 'e', 20, 64))
	case 1:
		return strconv.FormatFloat(f, 'x', -1, 64)
	case 2:
		return strconv.FormatFloat(f, 'f', -1, 64) // up to some 330 digits
	case 3:
		return new(big.Rat).SetFloat64(f).String() // as "1/1", too
	case 4:
		if f > 0 {
			return "+" + strconv.FormatFloat(f, 'g', -1, 64)
		}
	}
	return strconv.FormatFloat(f, 'g', -1, 64)
}

// texts gives the tokens of a tree's text.
func texts(rule *sample.Rule, g api.Geom) []string {
	return append([]string{anyCase(rule, kinds[g.Kind])}, body(rule, g)...)
}

// body gives those behind its kind's word.
func body(rule *sample.Rule, g api.Geom) []string {
	var members [][]string
	for _, p := range g.Line {
		members = append(members, []string{written(rule, p.X), written(rule, p.Y)})
	}
	for _, ring := range g.Rings {
		members = append(members, body(rule, sample.Line(ring...)))
	}
	for _, part := range g.Parts {
		switch {
		case g.Kind == api.Collection:
			members = append(members, texts(rule, part))
		case g.Kind == api.Points && len(part.Line) == 1 && rule.Below(2) == 0:
			inside := body(rule, part)
			members = append(members, inside[1:3])
		default:
			members = append(members, body(rule, part))
		}
	}
	if len(members) == 0 {
		return []string{anyCase(rule, "EMPTY")}
	}
	out := []string{"("}
	for i, m := range members {
		if i > 0 {
			out = append(out, ",")
		}
		out = append(out, m...)
	}
	return append(out, ")")
}

// tight tells whether no blank need stand between two tokens.
func tight(a string, b string) bool {
	return strings.Contains("(),;", a) || strings.Contains("(),;", b)
}

// joined writes tokens one behind the other, with blanks where these must be, and elsewhere now and then.
func joined(rule *sample.Rule, tokens []string) string {
	var out strings.Builder
	last := "("
	for _, s := range append(tokens, ")") {
		least := 1
		if tight(last, s) {
			least = 0
		}
		for range least + rule.Below(3)*rule.Below(2) {
			out.WriteString(some(rule, " ", "\t", "\n", "\r"))
		}
		out.WriteString(s)
		last = s
	}
	return strings.TrimSuffix(out.String(), ")")
}

// spaced writes tokens with these blanks ahead, between and behind.
func spaced(tokens []string, blanks string) string {
	return blanks + strings.Join(tokens, blanks) + blanks
}

// pieces are tokens and other things that a text may have in a wrong place.
func pieces() []string {
	return append([]string{"(", ")", ",", "EMPTY", "1", "-2.5", "1e309", "-2e308", "1/0", "0/0", "3/4", "0x1p3", "x", "nan", "Z", "M", "SRID",
		"1x", ";", "é", "\x00", "+", "1e", "POINTS", "POINTZ", "empty2"}, kinds[1:]...)
}
