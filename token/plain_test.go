package token_test

import (
	"errors"
	"fmt"
	"regexp"
	"strings"
	"testing"

	"plumb/api"
	"plumb/lex"
	"plumb/sample"
	"plumb/token"
)

// w gives a word as All tells it.
func w(s string, from int, to int) api.Token {
	return api.Token{Kind: api.WordToken, From: from, To: to, Word: s}
}

// n gives a number of a numeral's text.
func n(s string, from int, to int) api.Token {
	num, err := lex.Parse(s)
	if err != nil {
		panic(s + " is no numeral")
	}
	return api.Token{Kind: api.Number, From: from, To: to, Num: num}
}

// mark gives a parenthesis or a comma.
func mark(kind int, from int) api.Token {
	return api.Token{Kind: kind, From: from, To: from + 1}
}

// isFault tells whether an error is a *api.Fault itself, with that place and ErrToken.
func isFault(err error, at int) bool {
	f, ok := err.(*api.Fault)
	return ok && f != nil && f.At == at && f.Err == error(api.ErrToken) && errors.Is(err, api.ErrToken) && api.Code(err) == 180 && api.Place(err) == at
}

// brief tells tokens in not too many letters.
func brief(l []api.Token) string {
	s := fmt.Sprint(l)
	return s[:min(len(s), 300)]
}

// refuses holds All to an error at a place.
func refuses(t *testing.T, s string, at int) {
	t.Helper()
	if l, err := token.All(s); len(l) != 0 || !isFault(err, at) {
		t.Errorf("P18.4: All(%.60q) = %s, %v, want %d at %d", s, brief(l), err, api.ErrToken, at)
	}
}

// pattern is what may stand at a place, by the document's grammar: blanks, then a word, a numeral, a mark or the end.
var pattern = func() *regexp.Regexp {
	re := regexp.MustCompile(`^[ \t\n\r]*(?:([A-Za-z]+)|([+-]?(?:(?:\d+\.?\d*|\.\d+)(?:[eE][+-]?\d+)?|` +
		`0[xX](?:[\da-fA-F]+\.?[\da-fA-F]*|\.[\da-fA-F]+)[pP][+-]?\d+|\d+/\d+))|([(),])|$)`)
	re.Longest()
	return re
}()

// marks are the texts of the kinds 2 to 4.
const marks = "(),"

// plainNext gives the token at a place by the pattern, and the place of what is wrong (-1: nothing is). No numeral of
// the text may have more than MaxText bytes.
func plainNext(s string, at int) (api.Token, int) {
	m := pattern.FindStringSubmatchIndex(s[at:])
	blanks := len(s[at:]) - len(strings.TrimLeft(s[at:], " \t\n\r"))
	if m == nil {
		return api.Token{}, at + blanks
	}
	from, to := at+blanks, at+m[1]
	piece := s[from:to]
	switch {
	case m[6] >= 0:
		return mark(api.OpenToken+strings.Index(marks, piece), from), -1
	case m[2] < 0 && m[4] < 0:
		return api.Token{From: len(s), To: len(s)}, -1
	case to < len(s) && !strings.ContainsRune(" \t\n\r,()", rune(s[to])):
		return api.Token{}, to
	case m[2] >= 0:
		return w(strings.ToUpper(piece), from, to), -1
	}
	return n(piece, from, to), -1
}

// plainAll gives all tokens likewise.
func plainAll(s string) ([]api.Token, int) {
	var out []api.Token
	at := 0
	for {
		t, bad := plainNext(s, at)
		if bad >= 0 {
			return nil, bad
		}
		if t.Kind == api.EndToken {
			return out, -1
		}
		out = append(out, t)
		at = t.To
	}
}

// some gives one of these pieces.
func some(rule *sample.Rule, pieces ...string) string {
	return pieces[rule.Below(len(pieces))]
}

// jumble gives a text of so many pieces that may or may not be tokens together.
func jumble(rule *sample.Rule, count int) string {
	var out strings.Builder
	for range count {
		out.WriteString(some(rule, "POINT", "x", "e", "E", "p", "Abz", "0", "1", "9", "25", "0x", "0X1.8p", "/", ".", "+", "-",
			" ", " ", " ", "\t", "\n", "\r", "(", ")", ",", ", ", ") ", "1e5", "3/4", "-.5", "é", "\x00", "\xff", "_", ";", "@", "[", "`", "{", "\v", "\f"))
	}
	return out.String()
}

// tokens gives so many texts of tokens, none of them a blank or of two tokens.
func tokens(rule *sample.Rule, count int) []string {
	out := make([]string, count)
	for i := range out {
		out[i] = some(rule, "POINT", "emPty", "a", "Z", "nan", "e", "(", "(", ")", ")", ",", ",", "0", "-0", "+7", "1.50", ".5", "5.", "1e5", "1E-05", "-2.5e3",
			"1e99999999999", "0x1.8p1", "-0XaBp-4", "0x0p9", "3/4", "-010/002", "1/0", "0/5", "+0.00e5")
	}
	return out
}

// joined writes texts of tokens one behind the other, with blanks between where these must be, and elsewhere now and then.
func joined(rule *sample.Rule, l []string) string {
	var out strings.Builder
	long := false
	for _, s := range l {
		isLong := !strings.Contains(marks, s)
		least := 0
		if long && isLong {
			least = 1
		}
		for range least + rule.Below(3)*rule.Below(2) {
			out.WriteString(some(rule, " ", "\t", "\n", "\r"))
		}
		out.WriteString(s)
		long = isLong
	}
	return out.String()
}

// unplaced gives tokens without their places.
func unplaced(l []api.Token) []api.Token {
	out := make([]api.Token, len(l))
	for i, t := range l {
		t.From, t.To = 0, 0
		out[i] = t
	}
	return out
}
