package codec_test

import (
	"encoding/hex"
	"errors"
	"math/big"
	"slices"
	"strconv"
	"strings"
	"testing"

	"plumb/api"
	"plumb/sample"
)

// formats are all that there are, modes likewise.
var (
	formats = []int{api.AsText, api.AsHex, api.AsBig, api.AsLittle, api.AsDigits}
	modes   = []int{api.Shortest, api.HexFloat, api.Science}
)

// noFormats are numbers that are none, those among them that are one when they are cut.
var noFormats = []int{0, 6, 7, -1, -2, -5, 256, 257, 1<<32 + 1, 1<<32 + 3, 1<<63 - 1, -1 << 63, -1<<63 + 4}

// isFault tells whether an error is a *api.Fault itself, with that place and that Errno.
func isFault(err error, at int, code api.Errno) bool {
	f, ok := err.(*api.Fault)
	return ok && f != nil && f.At == at && f.Err == error(code) && errors.Is(err, code) && api.Code(err) == code && api.Place(err) == at
}

// isLike tells whether an error is as another: both nil, or a *api.Fault with its place and Errno.
func isLike(err error, want error) bool {
	if want == nil {
		return err == nil
	}
	return isFault(err, api.Place(want), api.Code(want))
}

// isNothing tells whether a Geom is the zero one.
func isNothing(g api.Geom) bool {
	return g.Kind == 0 && len(g.Line)+len(g.Rings)+len(g.Parts) == 0
}

// hexa gives the bytes of hex digits with blanks between.
func hexa(t *testing.T, s string) []byte {
	t.Helper()
	b, err := hex.DecodeString(strings.ReplaceAll(s, " ", ""))
	if err != nil {
		t.Fatalf("%q: %v", s, err)
	}
	return b
}

// begins gives where each geometry of a tree begins in its bytes, by the table of WKB, from that place on; and where the
// last one ends.
func begins(g api.Geom, at int) ([]int, int) {
	out := []int{at}
	switch g.Kind {
	case api.APoint:
		return out, at + 21
	case api.ALine:
		return out, at + 9 + 16*len(g.Line)
	}
	at += 9
	for _, ring := range g.Rings {
		at += 4 + 16*len(ring)
	}
	for _, part := range g.Parts {
		inside, end := begins(part, at)
		out, at = append(out, inside...), end
	}
	return out, at
}

// someOrders gives orders of the row, mostly one of the two.
func someOrders(rule *sample.Rule, n int) []bool {
	out := make([]bool, n)
	most := rule.Below(2) == 0
	for i := range out {
		out[i] = most != (rule.Below(2*n) == 0)
	}
	return out
}

// changed gives a text or bytes with something done to them.
func changed(rule *sample.Rule, b []byte) []byte {
	b = slices.Clone(b)
	if len(b) == 0 {
		return b
	}
	at := rule.Below(len(b))
	switch rule.Below(7) {
	case 0:
		return b[:at]
	case 1:
		return slices.Insert(b, at, b[rule.Below(len(b))])
	case 2:
		return slices.Delete(b, at, at+1)
	case 3:
		b[at] = byte(rule.Next())
	case 4:
		b[at] = byte(rule.Below(3))
	case 5:
		b[at] = "(), 19eExp/-"[rule.Below(12)]
	case 6:
		b = append(b, b[at])
	}
	return b
}

// some gives one of these pieces.
func some(rule *sample.Rule, pieces ...string) string {
	return pieces[rule.Below(len(pieces))]
}

// loose writes a text in another way: words in any case, other blanks, each numeral as one of the same number.
func loose(rule *sample.Rule, text string) []byte {
	for _, sign := range []string{"(", ")", ","} {
		text = strings.ReplaceAll(text, sign, " "+sign+" ")
	}
	var out strings.Builder
	for _, s := range strings.Fields(text) {
		out.WriteString(some(rule, " ", "\t", "\n", "\r\n", "  "))
		switch {
		case strings.Contains("(),", s):
			out.WriteString(s)
		case s[0] == '-' || s[0] >= '0' && s[0] <= '9':
			out.WriteString(rewritten(rule, s))
		default:
			out.WriteString(some(rule, s, strings.ToLower(s), s[:2]+strings.ToLower(s[2:])))
		}
	}
	return []byte(out.String() + some(rule, "", " ", "\n"))
}

// rewritten gives a numeral of the same pattern.
func rewritten(rule *sample.Rule, s string) string {
	f, _ := strconv.ParseFloat(s, 64)
	switch rule.Below(5) {
	case 0:
		return strings.ToUpper(strconv.FormatFloat(f, 'e', 20, 64))
	case 1:
		return strconv.FormatFloat(f, 'x', -1, 64)
	case 2:
		if f != 0 { // a quotient has no sign of its zero
			return new(big.Rat).SetFloat64(f).String()
		}
	case 3:
		if s[0] != '-' {
			return "+" + s
		}
	}
	return s
}
